package simfs_test

import (
	"fmt"
	"maps"
	"slices"
	"strings"
	"testing"

	"rubric/api"
	"rubric/simfs"
)

// model: the document's words, slow and plain: every file that was ever created, and the whole directory as it was
// sure, and behind each change since.
type model struct {
	room   int
	texts  []string
	sure   []int
	states []map[string]int
	plan   []int
	left   int // -1: it isn't armed
	steps  int
}

// newModel: of an empty file system.
func newModel(room int) *model {
	return &model{room: room, states: []map[string]int{{}}, left: -1}
}

// now: the directory.
func (m *model) now() map[string]int { return m.states[len(m.states)-1] }

// used: the bytes of all files with a name.
func (m *model) used() int {
	n := 0
	for _, k := range m.now() {
		n += len(m.texts[k])
	}
	return n
}

// step: what the plan says, and the error.
func (m *model) step() (int, api.Errno) {
	if m.left == 0 {
		return 0, api.ErrDead
	}
	if m.left > 0 {
		m.left--
	}
	m.steps++
	k := 0
	if len(m.plan) > 0 {
		k, m.plan = m.plan[0], m.plan[1:]
	}
	if k == 0 {
		return k, api.OK
	}
	if k == 2 {
		return k, api.ErrSpace
	}
	return k, api.ErrIO
}

// changed: a directory change that went well.
func (m *model) changed(change func(d map[string]int)) {
	d := maps.Clone(m.now())
	change(d)
	m.states = append(m.states, d)
}

// do: a call by its letter; its error.
func (m *model) do(call byte, name, to string, b string) api.Errno {
	good := func(s string) bool {
		return len(s) > 0 && len(s) < 21 && strings.Trim(s, "abcdefghijklmnopqrstuvwxyz0123456789.-") == ""
	}
	if call != 'D' && !good(name) || call == 'N' && !good(to) {
		return api.ErrName
	}
	k, there := m.now()[name]
	if call == 'C' && there {
		return api.ErrExist
	}
	if call == 'C' && len(m.now()) == 64 {
		return api.ErrFull
	}
	if call != 'C' && call != 'D' && !there {
		return api.ErrNone
	}
	if call == 'A' && len(m.texts[k])+len(b) > 65536 {
		return api.ErrLong
	}
	planned, e := m.step()
	if call == 'A' && planned > 2 {
		m.texts[k] += b[:max(0, min(planned-3, len(b), m.room-m.used()))]
	}
	if call == 'A' && e == api.OK && m.used()+len(b) > m.room {
		return api.ErrSpace
	}
	if e == api.OK {
		m.done(call, k, name, to, b)
	}
	return e
}

// done: what a step does that goes well.
func (m *model) done(call byte, k int, name, to string, b string) {
	switch call {
	case 'C':
		m.changed(func(d map[string]int) { d[name] = len(m.texts) })
		m.texts, m.sure = append(m.texts, ""), append(m.sure, 0)
	case 'A':
		m.texts[k] += b
	case 'S':
		m.sure[k] = len(m.texts[k])
	case 'D':
		m.states = m.states[len(m.states)-1:]
	case 'N':
		m.changed(func(d map[string]int) {
			delete(d, name)
			d[to] = k
		})
	case 'R':
		m.changed(func(d map[string]int) { delete(d, name) })
	}
}

// crash: what is left.
func (m *model) crash(dirs int, tails []int) *model {
	x := newModel(m.room)
	d := m.states[max(0, min(dirs, len(m.states)-1))]
	for _, name := range slices.Sorted(maps.Keys(d)) {
		n := m.sure[d[name]]
		if d[name] < len(tails) {
			n = max(n, min(n+tails[d[name]], len(m.texts[d[name]])))
		}
		x.states[0][name] = len(x.texts)
		x.texts, x.sure = append(x.texts, m.texts[d[name]][:n]), append(x.sure, n)
	}
	return x
}

// shown: as content shows a file system.
func (m *model) shown() string {
	var l []string
	for _, name := range slices.Sorted(maps.Keys(m.now())) {
		l = append(l, name+"="+m.texts[m.now()[name]])
	}
	return strings.Join(l, " ")
}

// dice: numbers that are the same each time.
type dice uint32

// under: one from 0 to n - 1.
func (d *dice) under(n int) int {
	*d = *d*1664525 + 1013904223
	return int(*d>>8) % n
}

// many: so many numbers.
func (d *dice) many(n, from, to int) []int {
	l := make([]int, n)
	for i := range l {
		l[i] = from + d.under(to-from)
	}
	return l
}

// pair: a file system, and what it should be.
type pair struct {
	f *simfs.FS
	m *model
}

// act: some call of both, of the letters given; what it was, and whether both answered the same.
func (p *pair) act(d *dice, letters string, names []string) (string, bool) {
	call := letters[d.under(len(letters))]
	name, to := names[d.under(len(names))], names[d.under(len(names))]
	b := "0123456789abcdefghijklmnopqrstuvwxyz"[d.under(20):][:d.under(9)]
	if d.under(40) == 0 {
		b = strings.Repeat("x", 65536-d.under(12))
	}
	var got api.Errno
	switch call {
	case 'C':
		got = p.f.Create(name)
	case 'A':
		got = p.f.Append(name, []byte(b))
	case 'S':
		got = p.f.Sync(name)
	case 'D':
		got = p.f.SyncDir()
	case 'N':
		got = p.f.Rename(name, to)
	case 'R':
		got = p.f.Remove(name)
	case 'P':
		l := d.many(d.under(6), -2, 12)
		p.f.Plan(l)
		p.m.plan = l
		return fmt.Sprint("Plan ", l), true
	case 'M':
		n := d.under(30) - 1
		got = p.f.Arm(n)
		want := api.OK
		switch {
		case n < 0:
			want = api.ErrRange
		case p.m.left == 0:
			want = api.ErrDead
		default:
			p.m.left = n
		}
		return fmt.Sprintf("Arm(%d): %d, want %d", n, got, want), got == want
	}
	want := p.m.do(call, name, to, b)
	return fmt.Sprintf("%c %q %q and %d bytes: %d, want %d", call, name, to, len(b), got, want), got == want
}

// alike: whether both have the same in them.
func (p *pair) alike(t *testing.T) bool {
	t.Helper()
	return content(t, p.f) == p.m.shown() && p.f.Steps() == p.m.steps && p.f.Used() == p.m.used()
}

// walk: so many calls, with crashes in between; the old ones are gone on with as well as what is left of them.
func walk(t *testing.T, seed, room, calls int, letters string, names []string) {
	t.Helper()
	d := dice(seed)
	f := fresh(t, room)
	all := []*pair{{f, newModel(room)}}
	var told []string
	for range calls {
		i := d.under(len(all))
		p := all[i]
		if d.under(12) == 0 {
			dirs, tails := d.under(12)-1, d.many(d.under(8), -2, 12)
			p = &pair{p.f.Crash(dirs, tails), p.m.crash(dirs, tails)}
			place := d.under(4)
			if len(all) < 4 {
				place = len(all)
				all = append(all, nil)
			}
			all[place] = p
			told = append(told, fmt.Sprintf("%d: Crash(%d, %v) is %d", i, dirs, tails, place))
		} else {
			what, right := p.act(&d, letters, names)
			told = append(told, fmt.Sprint(i, ": ", what))
			if !right {
				t.Fatalf("seed %d:\n%s", seed, strings.Join(told, "\n"))
			}
		}
		if !p.alike(t) {
			t.Fatalf("seed %d:\n%s\n%.2000q, want\n%.2000q", seed, strings.Join(told, "\n"), content(t, p.f), p.m.shown())
		}
	}
	for i, p := range all {
		if !p.alike(t) {
			t.Fatalf("seed %d: %d changed with another one", seed, i)
		}
	}
}

// P2.1, P2.2, P2.3: for many lists of calls each answers by the document's words.
func TestManyLists(t *testing.T) {
	names := []string{"a", "b", "c", "d", "manifest.tmp", "-", "A", "", "a_b", "aaaaaaaaaaaaaaaaaaaaa", "aaaaaaaaaaaaaaaaaaaa"}
	for seed := range 150 {
		walk(t, 3*seed, 30+seed, 200, "CCCAAAAAASSDDNNRPM", names)
		walk(t, 3*seed+1, 20+seed%7, 200, "CCCAAAAAASDNNRPP", names[:4])
		walk(t, 3*seed+2, 1<<20, 200, "CCAAAAASDNRP", names[:3])
	}
}

// P2.1, P2.2: the same with so many names that there is no place for all.
func TestManyListsOfManyNames(t *testing.T) {
	var names []string
	for i := range 80 {
		names = append(names, fmt.Sprint("n", i))
	}
	for seed := range 20 {
		walk(t, seed, 200, 1500, "CCCCCCCCASDNNR", names)
	}
}
