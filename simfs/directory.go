package simfs

import (
	"bytes"
	"slices"
	"strings"
)

const maxName = 20

// file: its bytes, how many of the first ones are sure, and how many files were created ahead of it.
type file struct {
	number int
	data   []byte
	sure   int
}

// add: bytes behind the others.
func (x *file) add(b []byte) { x.data = append(x.data, b...) }

// crashed: what a crash leaves of it, where so many bytes are kept behind the sure ones.
func (x *file) crashed(tail, number int) *file {
	n := x.sure + within(tail, len(x.data)-x.sure)
	return &file{number: number, data: bytes.Clone(x.data[:n]), sure: n}
}

// directory: of which file each name is.
type directory map[string]*file

// names: all of them, rising.
func (d directory) names() []string {
	l := make([]string, 0, len(d))
	for name := range d {
		l = append(l, name)
	}
	slices.Sort(l)
	return l
}

// size: the bytes of all files.
func (d directory) size() int {
	n := 0
	for _, x := range d {
		n += len(x.data)
	}
	return n
}

// change: one of a directory; done again to an elder state, it does there what it did then.
type change func(d directory)

// creation: the file has the name. (A name is kept as a copy: what was handed in may be a piece of a long text.)
func creation(name string, x *file) change {
	name = strings.Clone(name)
	return func(d directory) { d[name] = x }
}

// renaming: the file from is to.
func renaming(from, to string) change {
	from, to = strings.Clone(from), strings.Clone(to)
	return func(d directory) {
		x := d[from]
		delete(d, from)
		d[to] = x
	}
}

// removal: the name isn't there any more.
func removal(name string) change {
	name = strings.Clone(name)
	return func(d directory) { delete(d, name) }
}

// named: whether each is a name.
func named(names ...string) bool {
	for _, name := range names {
		if len(name) < 1 || len(name) > maxName || strings.ContainsFunc(name, strange) {
			return false
		}
	}
	return true
}

// strange: whether no name has this sign.
func strange(r rune) bool {
	return !('a' <= r && r <= 'z' || '0' <= r && r <= '9' || r == '.' || r == '-')
}

// within: n, but at least 0, and at most all.
func within(n, all int) int { return min(max(n, 0), all) }
