package simfs

import "maps"

// Crash: what is left of it, with the first dirs directory changes that aren't sure, and of each file with so many
// bytes that aren't, by the order in which they were created.
func (f *FS) Crash(dirs int, tails []int) *FS {
	left := maps.Clone(f.sure)
	for _, do := range f.since[:within(dirs, len(f.since))] {
		do(left)
	}
	x := &FS{room: f.room, now: directory{}}
	for _, name := range left.names() {
		x.now[name] = left[name].crashed(at(tails, left[name].number), x.created)
		x.created++
	}
	x.sure = maps.Clone(x.now)
	return x
}

// at: the number at i; 0 behind the end.
func at(l []int, i int) int {
	if i < len(l) {
		return l[i]
	}
	return 0
}
