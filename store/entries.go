package store

import (
	"bytes"
	"iter"
	"maps"
	"slices"
	"sort"

	"rubric/api"
	"rubric/digest"
	"rubric/seglog"
)

// entries: what there is, each entry as the change that puts it.
type entries map[api.Key]Op

// Get: an entry's kind, its value, and whether there is one.
func (m entries) Get(k api.Key) (int, []byte, bool) {
	x, ok := m[k]
	return x.Kind, bytes.Clone(x.Value), ok
}

// Keys: of all entries, rising.
func (m entries) Keys() []api.Key {
	l := slices.Collect(maps.Keys(m))
	sort.Slice(l, func(i, j int) bool { return digest.Less(l[i], l[j]) })
	return l
}

// Live: the live bytes.
func (m entries) Live() int {
	n := 0
	for _, x := range m {
		n += x.live()
	}
	return n
}

// rising: all entries, by rising keys.
func (m entries) rising() iter.Seq[Op] {
	return func(yield func(Op) bool) {
		for _, k := range m.Keys() {
			if !yield(m[k]) {
				return
			}
		}
	}
}

// growth: how many live bytes more there would be behind the changes.
func (m entries) growth(ops ...Op) int {
	last := entries{} // of each key what stays, if it is changed more than once
	for _, op := range ops {
		last[op.Key] = op
	}
	return last.Live() - m.among(last)
}

// among: the live bytes of those entries whose keys the others have, too.
func (m entries) among(others entries) int {
	n := 0
	for k := range others {
		n += m[k].live()
	}
	return n
}

// change: the changes are done, in order.
func (m entries) change(ops ...Op) {
	for _, op := range ops {
		if op.Kind == deletion {
			delete(m, op.Key)
			continue
		}
		op.Value = bytes.Clone(op.Value) // what was handed in isn't kept
		m[op.Key] = op
	}
}

// replay: the batches of segments are done, in order; whether each frame is one, and never leaves too many live bytes.
func (m entries) replay(found ...seglog.Entry) bool {
	live := m.Live()
	for _, x := range found {
		ops, ok := batch(x.Kind, x.Payload)
		live += m.growth(ops...)
		if !ok || live > MaxLive {
			return false
		}
		m.change(ops...)
	}
	return true
}
