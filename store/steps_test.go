package store_test

import (
	"fmt"
	"slices"
	"testing"

	"rubric/api"
	"rubric/manifest"
	"rubric/simfs"
	"rubric/store"
)

// step: one of the file system, as the document's words have it; how many bytes it appends.
type step struct {
	what  string
	bytes int
	do    func(f *simfs.FS) api.Errno
}

func creates(name string) step {
	return step{"Create " + name, 0, func(f *simfs.FS) api.Errno { return f.Create(name) }}
}

func appends(name string, b []byte) step {
	return step{"Append " + name, len(b), func(f *simfs.FS) api.Errno { return f.Append(name, b) }}
}

func syncs(name string) step {
	return step{"Sync " + name, 0, func(f *simfs.FS) api.Errno { return f.Sync(name) }}
}

func syncsDir() step {
	return step{"SyncDir", 0, func(f *simfs.FS) api.Errno { return f.SyncDir() }}
}

func renames(from, to string) step {
	return step{"Rename " + from, 0, func(f *simfs.FS) api.Errno { return f.Rename(from, to) }}
}

func removes(name string) step {
	return step{"Remove " + name, 0, func(f *simfs.FS) api.Errno { return f.Remove(name) }}
}

// named: a segment's file.
func named(id int) string { return fmt.Sprint("seg-", id) }

// listing: a manifest's bytes.
func listing(version int, segs ...int) []byte {
	s := fmt.Sprintln(version)
	for _, id := range segs {
		s += fmt.Sprintln(id)
	}
	return framed(9, []byte(s))
}

// begins: a segment is created.
func begins(id int) []step { return []step{creates(named(id)), syncsDir()} }

// saves: a manifest is saved, where there is no manifest.tmp.
func saves(version int, segs ...int) []step {
	const tmp = "manifest.tmp"
	return []step{creates(tmp), appends(tmp, listing(version, segs...)), syncs(tmp), renames(tmp, "manifest"), syncsDir()}
}

// logs: each is appended to a segment, as a batch of its own.
func logs(id int, ops ...store.Op) []step {
	var l []step
	for _, x := range ops {
		l = append(l, appends(named(id), batch(x)), syncs(named(id)))
	}
	return l
}

// cleans: the files are removed.
func cleans(names ...string) []step {
	var l []step
	for _, name := range names {
		l = append(l, removes(name))
	}
	return append(l, syncsDir())
}

// files: names and bytes.
type files map[string][]byte

// laid: a file system with these files, names and all sure, and without a step.
func laid(t *testing.T, l files) *simfs.FS {
	t.Helper()
	f := fresh(t, room)
	for name, b := range l {
		is(t, "Create "+name, f.Create(name), api.OK)
		is(t, "Append "+name, f.Append(name, b), api.OK)
	}
	return f.Crash(len(l), slices.Repeat([]int{api.MaxFile}, len(l)))
}

// with: these files, and others.
func (l files) with(others files) files {
	both := files{}
	for _, x := range []files{l, others} {
		for name, b := range x {
			both[name] = b
		}
	}
	return both
}

// ids: n of them, from first on.
func ids(first, n int) []int {
	l := make([]int, n)
	for i := range l {
		l[i] = first + i
	}
	return l
}

// segments: the files of n segments, from 2 on; each but the last with an elder value of a.
func segments(n int, last []byte) files {
	l := files{"manifest": listing(7, ids(2, n)...)}
	for _, id := range ids(2, n) {
		l[named(id)] = batch(put('a', 1, named(id)))
	}
	l[named(n+1)] = last
	return l
}

// names: the files of n segments, from 2 on, rising.
func names(n int) []string {
	var l []string
	for _, id := range ids(2, n) {
		l = append(l, named(id))
	}
	slices.Sort(l)
	return l
}

// scenario: a call on a file system, the steps that it takes, and what the store has ahead of it and behind.
type scenario struct {
	what          string
	start         files
	call          func(s *store.Store) api.Errno // nil: it is the Open itself
	steps         []step
	saved         int // behind so many steps the manifest is another one, if it ever is
	segs, later   []int
	before, after string
}

const never = 1 << 30

// scenarios: each call, where it is turned and compacted, and where it isn't.
func scenarios() []scenario {
	some := batch(put('a', 2, "x"), put('c', 3, "zz"), put('b', 9, ""))
	torn := each(some, batch(put('a', 1, "torn"))[:30])
	much := each(some, batch(put('d', 1, long(5000))), batch(gone('d')))
	all := []store.Op{put('a', 2, "x"), put('b', 9, ""), put('c', 3, "zz")}
	next := []store.Op{put('b', 1, "y"), gone('c')}
	const was, is = "a2=x b9= c3=zz", "a2=x b1=y"
	junk := files{"seg-0": nil, "a": []byte("a"), "manifest.tmp": []byte("tmp"), "seg-999": batch(put('z', 1, "z"))}
	write := func(s *store.Store) api.Errno { return s.Write(next...) }
	compact := func(s *store.Store) api.Errno { return s.Compact() }
	wrote := func(id int) []step { return []step{appends(named(id), batch(next...)), syncs(named(id))} }
	compacts := func(id int, ops ...store.Op) []step {
		return slices.Concat(begins(id), logs(id, ops...), saves(8, id))
	}
	at := func(l ...[]step) []step { return slices.Concat(l...) }
	return []scenario{
		{"Open of nothing", nil, nil, at(begins(1), saves(1, 1)), never, nil, []int{1}, "", ""},
		{"Open without a manifest", junk.with(files{"seg-1": some}), nil, at(cleans("a", "manifest.tmp", "seg-0", "seg-1", "seg-999"), begins(1), saves(1, 1)), never, nil, []int{1}, "", ""},
		{"Open as it is", segments(3, some), nil, nil, never, nil, ids(2, 3), "", was},
		{"Open with orphans", segments(3, some).with(junk), nil, cleans("a", "manifest.tmp", "seg-0", "seg-999"), never, nil, ids(2, 3), "", was},
		{"Open of a torn one", segments(3, torn), nil, at(begins(5), saves(8, 2, 3, 4, 5)), never, nil, ids(2, 4), "", was},
		{"Open of a torn one, with orphans", segments(1, torn).with(junk), nil, at(cleans("a", "manifest.tmp", "seg-0", "seg-999"), begins(3), saves(8, 2, 3)), never, nil, ids(2, 2), "", was},
		{"Open of a torn one, 31 segments", segments(31, torn), nil, at(begins(33), saves(8, ids(2, 32)...)), never, nil, ids(2, 32), "", was},
		{"Open of a torn one, 32 segments", segments(32, torn), nil, at(compacts(34, all...), cleans(names(32)...)), never, nil, []int{34}, "", was},
		{"Open as it is, 32 segments", segments(32, much), nil, nil, never, nil, ids(2, 32), "", was},
		{"Write", segments(2, some), write, wrote(3), never, ids(2, 2), ids(2, 2), was, is},
		{"Write, turned", segments(2, much), write, at(begins(4), saves(8, 2, 3, 4), wrote(4)), 7, ids(2, 2), ids(2, 3), was, is},
		{"Write, turned, 31 segments", segments(31, much), write, at(begins(33), saves(8, ids(2, 32)...), wrote(33)), 7, ids(2, 31), ids(2, 32), was, is},
		{"Write, 32 segments", segments(32, some), write, wrote(33), never, ids(2, 32), ids(2, 32), was, is},
		{"Write, compacted", segments(32, much), write, at(compacts(34, all...), cleans(names(32)...), wrote(34)), 13, ids(2, 32), []int{34}, was, is},
		{"Compact", segments(2, some), compact, at(compacts(4, all...), cleans(names(2)...)), 13, ids(2, 2), []int{4}, was, was},
		{"Compact of much", segments(3, much), compact, at(compacts(5, all...), cleans(names(3)...)), 13, ids(2, 3), []int{5}, was, was},
		{"Compact of none", segments(1, nil), compact, at(compacts(3), cleans(names(1)...)), 7, []int{2}, []int{3}, "", ""},
	}
}

// fault: how one of the steps doesn't go well.
type fault struct {
	what string
	set  func(f *simfs.FS)
}

// faults: what may be wrong with the step behind so many others.
func faults(behind int, x step) []fault {
	l := []fault{{"dead", func(f *simfs.FS) { f.Arm(behind) }}}
	for k := -1; k <= x.bytes+5; k++ {
		if k != 0 {
			l = append(l, fault{fmt.Sprint("planned ", k), func(f *simfs.FS) { f.Plan(append(make([]int, behind), k)) }})
		}
	}
	return l
}

// run: the store of the scenario, and its file system, behind the call; what it answered.
func (x scenario) run(t *testing.T, set func(f *simfs.FS)) (*store.Store, *simfs.FS, api.Errno) {
	t.Helper()
	f := laid(t, x.start)
	if x.call == nil {
		set(f)
		s, e := store.Open(f)
		return s, f, e
	}
	s := opened(t, x.what, f)
	if f.Steps() != 0 || told(s) != x.before || !slices.Equal(s.Segs(), x.segs) {
		t.Fatalf("%s: ahead of it: %d steps, %q, %v", x.what, f.Steps(), told(s), s.Segs())
	}
	set(f)
	return s, f, x.call(s)
}

// words: the file system behind the steps, up to the first that fails; its error.
func (x scenario) words(t *testing.T, set func(f *simfs.FS)) (*simfs.FS, api.Errno) {
	t.Helper()
	f := laid(t, x.start)
	set(f)
	for _, y := range x.steps {
		if e := y.do(f); e != api.OK {
			return f, e
		}
	}
	return f, api.OK
}

// alike: whether both file systems are the same, steps and all, and what crashes leave of them.
func alike(t *testing.T, what string, f, g *simfs.FS) {
	t.Helper()
	if f.Steps() != g.Steps() {
		t.Fatalf("%s: %d steps, want %d", what, f.Steps(), g.Steps())
	}
	if got, want := content(t, f), content(t, g); got != want {
		t.Fatalf("%s: %.300q, want %.300q", what, got, want)
	}
	for _, dirs := range []int{0, 1, 2, 99} {
		for _, n := range []int{0, 1, api.MaxFile} {
			tails := slices.Repeat([]int{n}, 70)
			if got, want := content(t, f.Crash(dirs, tails)), content(t, g.Crash(dirs, tails)); got != want {
				t.Fatalf("%s: Crash(%d, %d each): %.300q, want %.300q", what, dirs, n, got, want)
			}
		}
	}
}

// P6.1: each call takes these steps and no more.
func TestSteps(t *testing.T) {
	for _, x := range scenarios() {
		s, f, e := x.run(t, func(*simfs.FS) {})
		g, _ := x.words(t, func(*simfs.FS) {})
		is(t, x.what, e, api.OK)
		alike(t, x.what, f, g)
		if f.Steps() != len(x.steps) {
			t.Errorf("%s: %d steps, want %d", x.what, f.Steps(), len(x.steps))
		}
		if told(s) != x.after || !slices.Equal(s.Segs(), x.later) || s.ReadOnly() {
			t.Errorf("%s: %q, %v, %v", x.what, told(s), s.Segs(), s.ReadOnly())
		}
		again(t, x.what, s, f)
		is(t, x.what+", then Write", s.Write(put('e', 1, "e")), api.OK)
		again(t, x.what+", then Write", s, f)
	}
}

// P6.1: one of the steps fails, in each way, with each number of bytes: the error is answered, the steps behind it aren't
// taken; there is no store; or it is read-only, its entries are as they were, its segments as its last manifest has them.
func TestStepsThatFail(t *testing.T) {
	if testing.Short() {
		t.Skip("it takes seconds")
	}
	for _, x := range scenarios() {
		for i, y := range x.steps {
			for _, z := range faults(i, y) {
				what := fmt.Sprint(x.what, ", step ", i, ": ", y.what, ", ", z.what)
				s, f, e := x.run(t, z.set)
				g, want := x.words(t, z.set)
				is(t, what, e, want)
				alike(t, what, f, g)
				if x.call == nil {
					if s != nil {
						t.Errorf("%s: there is a store", what)
					}
					continue
				}
				segs := x.segs
				if i >= x.saved {
					segs = x.later
				}
				if told(s) != x.before || !slices.Equal(s.Segs(), segs) || e == api.OK {
					t.Errorf("%s: %d, %q, %v; want %q, %v", what, e, told(s), s.Segs(), x.before, segs)
				}
				readsAlone(t, what, s, f)
			}
		}
	}
}

// P6.1: there is no room for all the bytes: the Append's error, of a Write, of a turn, of a compaction.
func TestNoRoom(t *testing.T) {
	one := put('a', 1, long(100))
	f := fresh(t, 210)
	s := opened(t, "a small one", f)
	written(t, "Write", s, f, one)
	is(t, "Write, no room", s.Write(one), api.ErrSpace)
	has(t, "Write, no room", s, "a1="+short(one.Value))
	readsAlone(t, "Write, no room", s, f)
	s = opened(t, "no room, again", f)
	has(t, "no room, again", s, "a1="+short(one.Value))
	is(t, "Compact, no room", s.Compact(), api.ErrSpace)
	has(t, "Compact, no room", s, "a1="+short(one.Value))
	readsAlone(t, "Compact, no room", s, f)
	s = opened(t, "no room, again", f)
	written(t, "Write that has room", s, f, gone('a'))
	u, e := store.Open(fresh(t, 12))
	is(t, "Open, no room", e, api.ErrSpace)
	if u != nil {
		t.Error("Open, no room: there is a store")
	}
	opened(t, "Open, just room", fresh(t, 13))
}

// P6.1: what the file system refuses without a step makes it read-only, too: names that are there, or too many.
func TestRefusedByTheFiles(t *testing.T) {
	for _, x := range scenarios() {
		if x.saved == never {
			continue
		}
		next := named(x.later[len(x.later)-1])
		for what, want := range map[string]api.Errno{"its name is there": api.ErrExist, "too many names": api.ErrFull} {
			f := laid(t, x.start)
			s := opened(t, x.what, f)
			if want == api.ErrExist {
				is(t, "Create", f.Create(next), api.OK)
			}
			for i := 0; want == api.ErrFull && len(f.List()) < api.MaxFiles; i++ {
				is(t, "Create", f.Create(fmt.Sprint("x", i)), api.OK)
			}
			n, was := f.Steps(), content(t, f)
			is(t, x.what+", "+what, x.call(s), want)
			if f.Steps() != n || content(t, f) != was {
				t.Errorf("%s, %s: did something", x.what, what)
			}
			has(t, x.what+", "+what, s, x.before)
			readsAlone(t, x.what+", "+what, s, f)
		}
	}
	s, f := empty(t)
	is(t, "Remove", f.Remove("seg-1"), api.OK)
	is(t, "Write, the segment is gone", s.Write(put('a', 1, "x")), api.ErrNone)
	has(t, "Write, the segment is gone", s, "")
	readsAlone(t, "Write, the segment is gone", s, f)
}

// P6.1: it is turned just if the active segment's file has more than SegBytes bytes.
func TestSegBytes(t *testing.T) {
	for n := store.SegBytes - 2; n <= store.SegBytes+2; n++ {
		what := fmt.Sprint(n, " bytes")
		s, f := empty(t)
		written(t, what, s, f, put('b', 1, "y"))
		written(t, what, s, f, put('a', 1, long(n-45-44)))
		if got := size(t, f, "seg-1"); got != n {
			t.Fatalf("%s: %d", what, got)
		}
		untouched(t, what+": Write of none", s, f, api.OK, func() api.Errno { return s.Write() })
		g := f.Crash(0, nil)
		steps, segs := 2, []int{1}
		if n > store.SegBytes {
			steps, segs = 9, []int{1, 2}
		}
		u := opened(t, what, g)
		goes := func(s *store.Store, f *simfs.FS) {
			was := f.Steps()
			is(t, what, s.Write(gone('b')), api.OK)
			if !slices.Equal(s.Segs(), segs) || f.Steps() != was+steps {
				t.Errorf("%s: %v, %d steps, want %v, %d", what, s.Segs(), f.Steps()-was, segs, steps)
			}
			again(t, what, s, f)
		}
		goes(s, f)
		goes(u, g)
	}
}

// P6.1: from one segment to 32, then compacted, and turned again at once, where much is live.
func TestTurns(t *testing.T) {
	for _, live := range []int{1, 5} {
		s, f := empty(t)
		version := 1
		for i := range 80 {
			was := s.Segs()
			ahead := size(t, f, named(was[len(was)-1]))
			is(t, "Write", s.Write(put(byte('a'+i%live), 1, long(4053))), api.OK)
			want := was
			if ahead > store.SegBytes {
				version++
				last := was[len(was)-1]
				if want = append(was, last+1); len(was) == 32 {
					want = []int{last + 1}
				}
			}
			if !slices.Equal(s.Segs(), want) {
				t.Fatalf("Write %d: %v, want %v", i, s.Segs(), want)
			}
			m, e := manifest.Load(f)
			if e != api.OK || m.Version != version || !slices.Equal(m.Segs, want) || len(f.List()) != len(want)+1 {
				t.Fatalf("Write %d: %v, %d, %v; want version %d, %v", i, m, e, f.List(), version, want)
			}
			if i%7 == 0 {
				again(t, fmt.Sprint("Write ", i), s, f)
			}
		}
		if len(s.Keys()) != live || s.Live() != live*4097 {
			t.Errorf("%d keys, %d live bytes", len(s.Keys()), s.Live())
		}
	}
}

// P6.1: behind a compaction a batch goes to the segment that it left, however many bytes that has.
func TestWriteBehindCompaction(t *testing.T) {
	s, f := filled(t, 49000)
	for i := 0; len(s.Segs()) < 32 || size(t, f, named(s.Segs()[31])) <= store.SegBytes; i++ {
		if i > 500 {
			t.Fatalf("never turned: %v", s.Segs())
		}
		is(t, "Write", s.Write(put(100, 1, long(700))), api.OK)
	}
	live := s.Live()
	is(t, "Write, compacted", s.Write(put(100, 2, long(700)), put(101, 1, "")), api.OK)
	if len(s.Segs()) != 1 || s.Live() != live+44 {
		t.Errorf("Write, compacted: %v, %d live bytes, want %d", s.Segs(), s.Live(), live+44)
	}
	if got, want := size(t, f, named(s.Segs()[0])), live+len(batch(put(100, 2, long(700)), put(101, 1, ""))); got != want {
		t.Errorf("Write, compacted: %d bytes, want %d", got, want)
	}
	again(t, "Write, compacted", s, f)
	is(t, "Write, turned", s.Write(put(101, 2, "")), api.OK)
	if len(s.Segs()) != 2 {
		t.Errorf("Write, turned: %v", s.Segs())
	}
	again(t, "Write, turned", s, f)
}

// P6.3, P6.4: a Compact that answers OK changes no entry, and leaves two files, of the live bytes and at most 40 more.
func TestCompact(t *testing.T) {
	for _, x := range []struct {
		what string
		ops  []store.Op
	}{
		{"none", nil}, {"one", many(1, 0)}, {"some", []store.Op{put('a', 1, "x"), put('b', 9, ""), put('c', 3, long(3000))}},
		{"one that is gone", []store.Op{put('a', 1, "x"), gone('a')}}, {"one changed", []store.Op{put('a', 1, "x"), put('a', 2, "yy")}},
		{"many", many(1136, 0)}, {"long ones", many(6, 8000)}, {"just MaxLive", append(many(1135, 0), put('a', 1, long(16)))},
	} {
		s, f := empty(t)
		for _, op := range x.ops {
			is(t, x.what+": Write", s.Write(op), api.OK)
		}
		for range 3 {
			was, live, last := told(s), s.Live(), s.Segs()[len(s.Segs())-1]
			is(t, x.what+": Compact", s.Compact(), api.OK)
			has(t, x.what+": Compact", s, was)
			if s.Live() != live || !slices.Equal(s.Segs(), []int{last + 1}) || s.ReadOnly() {
				t.Errorf("%s: Compact: %d live bytes, it was %d; %v", x.what, s.Live(), live, s.Segs())
			}
			if n := f.Used(); n > live+40 || size(t, f, named(last+1)) != live || len(f.List()) != 2 {
				t.Errorf("%s: Compact: %d bytes in all, %d live; %v", x.what, n, live, f.List())
			}
			again(t, x.what+": Compact", s, f)
		}
		is(t, x.what+": Write behind it", s.Write(gone('a')), api.OK)
		again(t, x.what+": Write behind it", s, f)
	}
}

// P6.3: a Compact that fails changes no entry either; opened again it is the same, and can be compacted.
func TestCompactThatFails(t *testing.T) {
	for at := range 60 {
		for _, k := range []int{1, 2, 20, 9999} {
			what := fmt.Sprint("planned ", k, " behind ", at)
			s, f := empty(t)
			for i := range 12 {
				is(t, "Write", s.Write(put(byte('a'+i%4), 1+i%3, long(1000+i))), api.OK)
			}
			was := told(s)
			f.Plan(append(make([]int, at), k))
			e := s.Compact()
			f.Plan(nil)
			has(t, what, s, was)
			if s.ReadOnly() != (e != api.OK) {
				t.Errorf("%s: answered %d, read-only: %v", what, e, s.ReadOnly())
			}
			for _, x := range []*simfs.FS{f, f.Crash(0, nil), f.Crash(99, slices.Repeat([]int{10}, 30))} {
				u := opened(t, what, x)
				has(t, what+", opened again", u, was)
				is(t, what+", opened again: Compact", u.Compact(), api.OK)
				has(t, what+", compacted", u, was)
				if n := x.Used(); n > u.Live()+40 {
					t.Errorf("%s, compacted: %d bytes, %d live", what, n, u.Live())
				}
			}
		}
	}
}
