package store_test

import (
	"fmt"
	"slices"
	"testing"

	"rubric/api"
	"rubric/frame"
	"rubric/manifest"
	"rubric/seglog"
	"rubric/simfs"
	"rubric/store"
)

// refusesOpen: whether Open answers this error alone, behind so many steps, and again, then without a step.
func refusesOpen(t *testing.T, what string, f *simfs.FS, want api.Errno, steps int) {
	t.Helper()
	for range 2 {
		n := f.Steps()
		s, e := store.Open(f)
		if s != nil || e != want || f.Steps() != n+steps {
			t.Errorf("%s: Open: %v, %d, %d steps; want none, %d, %d steps", what, s != nil, e, f.Steps()-n, want, steps)
		}
		steps = 0
	}
}

// holding: a file system of one segment with these bytes.
func holding(t *testing.T, row []byte) *simfs.FS {
	t.Helper()
	return laid(t, files{"manifest": listing(1, 1), "seg-1": row})
}

// P6.1: without a manifest there is nothing: all files are removed, whatever they are.
func TestOpenWithoutManifest(t *testing.T) {
	want := each([]byte("manifest="), listing(1, 1), []byte(" seg-1="))
	for what, l := range map[string]files{
		"no file": nil, "one": {"a": []byte("a")}, "its own": {"seg-1": batch(put('a', 1, "x")), "manifest.tmp": listing(1, 1)},
		"segments": segments(5, nil).with(files{"z": nil}), "names that are almost its": {"manifest1": listing(1, 1), "seg-01": nil, "seg-2": batch(put('a', 1, "x"))},
	} {
		delete(l, "manifest")
		f := laid(t, l)
		s := opened(t, what, f)
		has(t, what, s, "")
		if got := content(t, f); got != string(want) || !slices.Equal(s.Segs(), []int{1}) {
			t.Errorf("%s: %q, %v", what, got, s.Segs())
		}
		again(t, what, s, f)
		written(t, what, s, f, put('b', 1, "y"))
		again(t, what, s, f)
	}
	l := files{}
	for i := range api.MaxFiles {
		l[fmt.Sprint("x", i)] = []byte("x")
	}
	f := laid(t, l)
	s := opened(t, "as many files as there may be", f)
	if f.Steps() != api.MaxFiles+1+7 || len(f.List()) != 2 {
		t.Errorf("as many files as there may be: %d steps, %v", f.Steps(), f.List())
	}
	again(t, "as many files as there may be", s, f)
}

// P6.1: a file manifest that isn't one: nothing is touched.
func TestOpenOfNoManifest(t *testing.T) {
	good := listing(3, 1, 2)
	for what, b := range map[string][]byte{
		"empty": nil, "torn": good[:len(good)-1], "longer": append(slices.Clone(good), 0), "twice": each(good, good), "of another kind": framed(1, []byte("3\n1\n2\n")),
		"falling": listing(3, 2, 1), "no segment": listing(3), "33 segments": listing(3, ids(1, 33)...), "version 0": listing(0, 1), "junk": []byte("junk"), "a batch": batch(put('a', 1, "x")),
	} {
		f := laid(t, files{"manifest": b, "seg-1": batch(put('a', 1, "x")), "seg-2": nil, "junk": []byte("junk")})
		was := content(t, f)
		refusesOpen(t, what, f, api.ErrForm, 0)
		if content(t, f) != was {
			t.Errorf("%s: %q, it was %q", what, content(t, f), was)
		}
	}
}

// P6.1: a segment that is missing, with the others there; orphans are gone by then.
func TestOpenWithoutSegment(t *testing.T) {
	for _, n := range []int{1, 3, 32} {
		for _, id := range ids(2, n) {
			l := segments(n, batch(put('b', 1, "y")))
			delete(l, named(id))
			refusesOpen(t, named(id)+" is missing", laid(t, l), api.ErrNone, 0)
			f := laid(t, l.with(files{"seg-1": nil, "x": nil}))
			refusesOpen(t, named(id)+" is missing, with orphans", f, api.ErrNone, 3)
			if len(f.List()) != n {
				t.Errorf("%s is missing: %v", named(id), f.List())
			}
		}
	}
}

// P6.1: what is a batch, and what isn't: of another kind, of no changes, of 65, of changes of another form.
func TestOpenOfBatches(t *testing.T) {
	a := put('a', 1, "x")
	one, two := changes(a), changes(a, put('b', 2, "yy"))
	for what, payload := range map[string][]byte{
		"one": one, "two": two, "64": changes(many(64, 0)...), "64 deletions": changes(make([]store.Op, 64)...), "a deletion": changes(gone('a')), "kind 9": changes(put('a', 9, "")),
		"as long as may be": changes(put('a', 1, long(api.MaxPayload-35))), "64, as long as may be": changes(many(64, 93)...), "one key, again and again": changes(a, gone('a'), put('a', 2, ""), a),
	} {
		f := holding(t, framed(1, payload))
		s := opened(t, what, f)
		again(t, what, s, f)
		for kind := 2; kind <= 9; kind++ {
			refusesOpen(t, fmt.Sprint(what, ", kind ", kind), holding(t, framed(kind, payload)), api.ErrForm, 0)
			refusesOpen(t, fmt.Sprint(what, ", kind ", kind, ", behind one"), holding(t, each(batch(a), framed(kind, payload))), api.ErrForm, 0)
			refusesOpen(t, fmt.Sprint(what, ", kind ", kind, ", ahead of one"), holding(t, each(framed(kind, payload), batch(a))), api.ErrForm, 0)
		}
	}
	bad := map[string][]byte{
		"none": nil, "65": changes(many(65, 0)...), "65 deletions": changes(make([]store.Op, 65)...), "kind 10": changes(put('a', 10, "")), "kind 255": changes(put('a', 255, "x")), "kind 128": changes(put('a', 128, "")),
		"a deletion with a value": changes(put('a', 0, "x")), "one, then kind 10": changes(a, put('a', 10, "")), "one, then a deletion with a value": changes(a, put('a', 0, "x"), a),
		"no value": changes(put('a', 1, long(300)))[:35], "a zero behind": append(slices.Clone(one), 0), "zeros": make([]byte, 34), "its value is too short by far": append(one[:33:33], 0, 255),
	}
	for n := 1; n < len(two); n++ {
		if n != len(one) {
			bad[fmt.Sprint("two, the first ", n, " bytes")] = two[:n]
		}
	}
	for what, payload := range bad {
		row := framed(1, payload)
		refusesOpen(t, what, holding(t, row), api.ErrForm, 0)
		refusesOpen(t, what+", behind one", holding(t, each(batch(a), row)), api.ErrForm, 0)
		refusesOpen(t, what+", ahead of one", holding(t, each(row, batch(a))), api.ErrForm, 0)
		refusesOpen(t, what+", torn behind", holding(t, each(row, []byte{0})), api.ErrForm, 0)
		refusesOpen(t, what+", in the first of three", laid(t, files{"manifest": listing(1, 1, 2, 3), "seg-1": row, "seg-2": batch(a), "seg-3": nil}), api.ErrForm, 0)
		refusesOpen(t, what+", in the last of three, with orphans", laid(t, files{"manifest": listing(1, 1, 2, 3), "seg-1": nil, "seg-2": batch(a), "seg-3": row, "x": nil, "y": nil}), api.ErrForm, 3)
		f := holding(t, batch(a))
		s := opened(t, "as a Write puts it", f)
		is(t, "Append", seglog.Append(f, 1, 1, payload), api.OK)
		has(t, "behind its back", s, "a1=x")
		refusesOpen(t, what+", appended", f, api.ErrForm, 0)
	}
}

// P6.1: live bytes count behind each batch: too many are refused, even if a later one takes them back.
func TestOpenOfLive(t *testing.T) {
	var row []byte
	for _, x := range many(1135, 0) {
		row = append(row, batch(x)...)
	}
	just := each(row, batch(put('a', 1, long(16))))
	f := holding(t, just)
	s := opened(t, "just MaxLive", f)
	if s.Live() != store.MaxLive {
		t.Errorf("just MaxLive: %d", s.Live())
	}
	again(t, "just MaxLive", s, f)
	for what, x := range map[string][]byte{
		"one byte more": each(row, batch(put('a', 1, long(17)))), "one more": each(just, batch(put('b', 1, ""))), "one longer": each(just, batch(put('a', 2, long(17)))),
		"one more, then it goes": each(just, batch(put('b', 1, "")), batch(gone('b'))), "one longer, then shorter": each(just, batch(put('a', 1, long(17))), batch(put('a', 1, ""))),
		"another goes that isn't there": each(just, batch(gone('c'), put('b', 1, ""))),
	} {
		refusesOpen(t, what, holding(t, x), api.ErrForm, 0)
		refusesOpen(t, what+", torn", holding(t, each(x, []byte{1})), api.ErrForm, 0)
		refusesOpen(t, what+", in the next segment", laid(t, files{"manifest": listing(1, 1, 2), "seg-1": row, "seg-2": x[len(row):]}), api.ErrForm, 0)
	}
	for what, x := range map[string][]byte{
		"one more, gone in the batch": batch(put('b', 1, "x"), gone('b')), "one goes, one comes": batch(gone('a'), put('b', 1, long(16))), "one comes, one goes": batch(put('b', 1, long(16)), gone('a')),
		"one longer, and shorter": batch(put('a', 1, long(100)), put('a', 2, long(16))),
	} {
		f := holding(t, each(just, x))
		if s := opened(t, what, f); s.Live() != store.MaxLive {
			t.Errorf("%s: %d live bytes", what, s.Live())
		}
	}
}

// P6.1: what is behind the front of the last segment turns it, whatever it is; behind others nothing counts.
func TestOpenOfTorn(t *testing.T) {
	one, two := batch(put('a', 1, "x")), batch(put('a', 2, "y"), put('b', 2, "z"))
	wrong := slices.Clone(two)
	wrong[20]++
	tails := map[string][]byte{"a zero": {0}, "zeros": make([]byte, 100), "junk": []byte("junk"), "another sum": wrong, "another sum, then one": each(wrong, one), "one byte, then one": each([]byte{7}, one), "kind 0": framed(0, nil), "kind 10": framed(10, changes(put('a', 2, "y")))}
	for n := 1; n < len(two); n++ {
		tails[fmt.Sprint("the first ", n, " bytes")] = two[:n]
	}
	for what, tail := range tails {
		f := holding(t, each(one, tail))
		s := opened(t, what, f)
		has(t, what, s, "a1=x")
		if !slices.Equal(s.Segs(), []int{1, 2}) || f.Steps() != 7 || size(t, f, "seg-2") != 0 || size(t, f, "seg-1") != len(one)+len(tail) {
			t.Errorf("%s: %v, %d steps", what, s.Segs(), f.Steps())
		}
		again(t, what, s, f)
		written(t, what+", Write", s, f, put('b', 3, "w"))
		has(t, what+", Write", s, "a1=x b3=w")
		again(t, what+", Write", s, f)
		g := laid(t, files{"manifest": listing(1, 1, 2, 3), "seg-1": each(one, tail), "seg-2": tail, "seg-3": batch(put('c', 1, "c"))})
		u := opened(t, what+", in others", g)
		has(t, what+", in others", u, "a1=x c1=c")
		if !slices.Equal(u.Segs(), []int{1, 2, 3}) || g.Steps() != 0 {
			t.Errorf("%s, in others: %v, %d steps", what, u.Segs(), g.Steps())
		}
		again(t, what+", in others", u, g)
	}
}

// P6.1: ids needn't be next to each other; the next one is that behind the last.
func TestIDs(t *testing.T) {
	f := laid(t, files{"manifest": listing(9, 3, 7, 20), "seg-3": batch(put('a', 1, "x")), "seg-7": nil, "seg-20": {0}, "seg-1": nil, "seg-21": batch(put('b', 1, "y"))})
	s := opened(t, "ids", f)
	if !slices.Equal(s.Segs(), []int{3, 7, 20, 21}) {
		t.Errorf("ids: %v", s.Segs())
	}
	has(t, "ids", s, "a1=x")
	again(t, "ids", s, f)
	is(t, "ids: Compact", s.Compact(), api.OK)
	if m, e := manifest.Load(f); e != api.OK || m.Version != 11 || !slices.Equal(m.Segs, []int{22}) || !slices.Equal(s.Segs(), []int{22}) {
		t.Errorf("ids: Compact: %v, %d, %v", m, e, s.Segs())
	}
	again(t, "ids: Compact", s, f)
}

// P6.1, P6: at the last id, and at the last version, what would need another one is refused; nothing else is.
func TestLastNumbers(t *testing.T) {
	const last = 1<<31 - 1
	for what, x := range map[string]struct {
		version, id int
		fits        bool
	}{"the last id": {1, last, false}, "the last version": {last, 1, false}, "one id more": {1, last - 1, true}, "one version more": {last - 1, 1, true}} {
		want := map[bool]api.Errno{true: api.OK, false: api.ErrRange}[x.fits]
		with := func(row []byte) *simfs.FS {
			return laid(t, files{"manifest": listing(x.version, x.id), named(x.id): row})
		}
		full := batch(put('a', 1, long(5000)))
		f := with(full)
		s := opened(t, what, f)
		was := told(s)
		is(t, what+": Write, turned", s.Write(put('a', 1, "x")), want)
		if s.ReadOnly() == x.fits || !x.fits && told(s) != was {
			t.Errorf("%s: Write, turned: %v, %q", what, s.ReadOnly(), told(s))
		}
		if !x.fits {
			readsAlone(t, what, s, f)
			has(t, what+", opened again", opened(t, what, f), was)
		}
		s = opened(t, what, with(full))
		is(t, what+": Compact", s.Compact(), want)
		has(t, what+": Compact", s, was)
		u, e := store.Open(with(append(slices.Clone(full), 0)))
		is(t, what+": Open of a torn one", e, want)
		if (u != nil) != x.fits {
			t.Errorf("%s: Open of a torn one: %v", what, u != nil)
		}
		f = with(nil)
		s = opened(t, what, f)
		written(t, what+": Write", s, f, put('a', 1, "x"))
		again(t, what+": Write", s, f)
	}
}

// P6.1: what a store wrote is as the chapters below have it: frames of kind 1, in the segments that the manifest names.
func TestAsWritten(t *testing.T) {
	s, f := empty(t)
	var want []byte
	for i := range 30 {
		ops := []store.Op{put(byte('a'+i%7), 1+i%9, long(100*i%701)), gone(byte('a' + i%5)), put('z', 1, fmt.Sprint(i))}
		is(t, "Write", s.Write(ops...), api.OK)
		want = append(want, changes(ops...)...)
	}
	found, whole, e := seglog.Read(f, s.Segs()...)
	var got []byte
	for _, x := range found {
		if x.Kind != 1 {
			t.Errorf("kind %d", x.Kind)
		}
		got = append(got, x.Payload...)
	}
	if e != api.OK || !whole || string(got) != string(want) || len(found) != 30 || len(s.Segs()) < 2 {
		t.Errorf("%d frames, %v, %d, %v", len(found), whole, e, s.Segs())
	}
	is(t, "Compact", s.Compact(), api.OK)
	row, _ := f.Read(named(s.Segs()[0]))
	l, n := frame.Scan(row)
	for i, k := range s.Keys() {
		kind, v, _ := s.Get(k)
		if string(l[i].Payload) != string(changes(store.Op{Key: k, Kind: kind, Value: v})) || l[i].Kind != 1 {
			t.Errorf("frame %d: %q", i, l[i].Payload)
		}
	}
	if len(l) != len(s.Keys()) || n != len(row) || n != s.Live() {
		t.Errorf("compacted: %d frames, %d of %d bytes, %d live", len(l), n, len(row), s.Live())
	}
}
