package simfs_test

import (
	"bytes"
	"fmt"
	"math"
	"slices"
	"strings"
	"testing"

	"rubric/api"
	"rubric/simfs"
)

// faces: what the document lists, signatures and all.
type faces interface {
	Create(name string) api.Errno
	Append(name string, b []byte) api.Errno
	Read(name string) ([]byte, api.Errno)
	Sync(name string) api.Errno
	SyncDir() api.Errno
	Rename(from, to string) api.Errno
	Remove(name string) api.Errno
	List() []string
	Used() int
	Steps() int
	Arm(n int) api.Errno
	Plan(l []int)
	Crash(dirs int, tails []int) *simfs.FS
}

var _ faces = (*simfs.FS)(nil)

// fresh: a file system of so much room.
func fresh(t *testing.T, room int) *simfs.FS {
	t.Helper()
	f, e := simfs.New(room)
	if e != api.OK || f == nil {
		t.Fatalf("New(%d): %d", room, e)
	}
	return f
}

// is: whether that error was answered.
func is(t *testing.T, what string, got, want api.Errno) {
	t.Helper()
	if got != want {
		t.Errorf("%s: %d, want %d", what, got, want)
	}
}

// steps: whether there were so many.
func steps(t *testing.T, what string, f *simfs.FS, want int) {
	t.Helper()
	if f.Steps() != want {
		t.Errorf("%s: %d steps, want %d", what, f.Steps(), want)
	}
}

// put: a file of these bytes, made of sound steps.
func put(t *testing.T, f *simfs.FS, name, text string) {
	t.Helper()
	is(t, "Create "+name, f.Create(name), api.OK)
	is(t, "Append "+name, f.Append(name, []byte(text)), api.OK)
}

// content: all names, rising, and what is in each: a=xyz b=.
func content(t *testing.T, f *simfs.FS) string {
	t.Helper()
	var l []string
	used := 0
	for _, name := range f.List() {
		b, e := f.Read(name)
		if e != api.OK {
			t.Errorf("Read %s, which is listed: %d", name, e)
		}
		used += len(b)
		l = append(l, name+"="+string(b))
	}
	if f.Used() != used {
		t.Errorf("Used: %d, but the files have %d bytes", f.Used(), used)
	}
	return strings.Join(l, " ")
}

// holds: whether just that is there.
func holds(t *testing.T, what string, f *simfs.FS, want string) {
	t.Helper()
	if got := content(t, f); got != want {
		t.Errorf("%s: %q, want %q", what, got, want)
	}
}

// refused: each call with that error, without a step and without a change.
func refused(t *testing.T, f *simfs.FS, want api.Errno, calls map[string]func() api.Errno) {
	t.Helper()
	was, n := content(t, f), f.Steps()
	for what, call := range calls {
		is(t, what, call(), want)
		holds(t, what, f, was)
		steps(t, what, f, n)
	}
}

// readError: that of a Read, which answers nothing beside it.
func readError(t *testing.T, f *simfs.FS, name string) api.Errno {
	t.Helper()
	b, e := f.Read(name)
	if e != api.OK && len(b) != 0 {
		t.Errorf("Read %q: %q beside %d", name, b, e)
	}
	return e
}

// P2.1: what room there may be.
func TestNew(t *testing.T) {
	for _, n := range []int{1, 2, 20, 1 << 16, 1<<20 - 1, 1 << 20} {
		f := fresh(t, n)
		if len(f.List()) != 0 || f.Used() != 0 || f.Steps() != 0 {
			t.Errorf("New(%d): %v, %d, %d", n, f.List(), f.Used(), f.Steps())
		}
		put(t, f, "a", strings.Repeat("x", min(n, api.MaxFile)))
	}
	for _, n := range []int{0, -1, 1<<20 + 1, 1 << 32, 1<<32 + 1, math.MinInt, math.MaxInt} {
		if f, e := simfs.New(n); f != nil || e != api.ErrRange {
			t.Errorf("New(%d): %v, %d", n, f, e)
		}
	}
}

// P2.1: the document's example.
func TestExample(t *testing.T) {
	f := fresh(t, 100)
	is(t, "Create", f.Create("a"), api.OK)
	is(t, "Append", f.Append("a", []byte("xyz")), api.OK)
	is(t, "Sync", f.Sync("a"), api.OK)
	is(t, "Append", f.Append("a", []byte("uv")), api.OK)
	holds(t, "Crash(1, [1])", f.Crash(1, []int{1}), "a=xyzu")
	holds(t, "Crash(0, [1])", f.Crash(0, []int{1}), "")
	holds(t, "Crash(0, nil)", f.Crash(0, nil), "")
}

// P2.1: every sign alone, and within a name; every length.
func TestNames(t *testing.T) {
	const signs = "abcdefghijklmnopqrstuvwxyz0123456789.-"
	for c := range 256 {
		sign := string([]byte{byte(c)})
		want := api.ErrName
		if strings.Contains(signs, sign) {
			want = api.OK
		}
		for _, name := range []string{sign, "a" + sign, sign + "a", "a" + sign + "a"} {
			is(t, fmt.Sprintf("Create %q", name), fresh(t, 1).Create(name), want)
		}
	}
	for _, name := range []string{"é", "а", "ａ", "a\u0301", "a ", "a\x00", "manifest.tmp/", "\xff\xfe"} {
		is(t, fmt.Sprintf("Create %q", name), fresh(t, 1).Create(name), api.ErrName)
	}
	for _, name := range []string{".", "..", "-", "--", "0", "manifest.tmp", "seg-2147483647", "a.b-c.0"} {
		is(t, fmt.Sprintf("Create %q", name), fresh(t, 1).Create(name), api.OK)
	}
	for n := range 50 {
		want := api.OK
		if n < 1 || n > 20 {
			want = api.ErrName
		}
		is(t, fmt.Sprintf("Create of %d bytes", n), fresh(t, 1).Create(strings.Repeat("z", n)), want)
	}
	is(t, "Create of 65536 bytes", fresh(t, 1).Create(strings.Repeat("a", 65536)), api.ErrName)
}

// P2.1: a name that is none is refused by all that take one, ahead of everything else.
func TestNoName(t *testing.T) {
	f := fresh(t, 10)
	put(t, f, "a", "x")
	for i := range api.MaxFiles - 1 {
		is(t, "Create", f.Create(fmt.Sprint(i)), api.OK)
	}
	for _, no := range []string{"", "A", "a b", strings.Repeat("a", 21)} {
		refused(t, f, api.ErrName, map[string]func() api.Errno{
			"Create":         func() api.Errno { return f.Create(no) },
			"Append":         func() api.Errno { return f.Append(no, nil) },
			"Append of more": func() api.Errno { return f.Append(no, make([]byte, api.MaxFile+1)) },
			"Sync":           func() api.Errno { return f.Sync(no) },
			"Remove":         func() api.Errno { return f.Remove(no) },
			"Rename to":      func() api.Errno { return f.Rename("a", no) },
			"Rename from":    func() api.Errno { return f.Rename(no, "a") },
			"Rename both":    func() api.Errno { return f.Rename(no, no) },
			"Rename of none": func() api.Errno { return f.Rename("zz", no) },
			"Read":           func() api.Errno { return readError(t, f, no) },
		})
	}
}

// P2.1: a name that isn't there is refused by all but Create, ahead of what would be too long.
func TestNone(t *testing.T) {
	f := fresh(t, 10)
	put(t, f, "a", "x")
	put(t, f, "gone", "y")
	put(t, f, "moved", "z")
	is(t, "Remove", f.Remove("gone"), api.OK)
	is(t, "Rename", f.Rename("moved", "b"), api.OK)
	for _, no := range []string{"gone", "moved", "never"} {
		refused(t, f, api.ErrNone, map[string]func() api.Errno{
			"Append":           func() api.Errno { return f.Append(no, nil) },
			"Append of more":   func() api.Errno { return f.Append(no, make([]byte, api.MaxFile+1)) },
			"Sync":             func() api.Errno { return f.Sync(no) },
			"Remove":           func() api.Errno { return f.Remove(no) },
			"Rename":           func() api.Errno { return f.Rename(no, "c") },
			"Rename to itself": func() api.Errno { return f.Rename(no, no) },
			"Rename over":      func() api.Errno { return f.Rename(no, "a") },
			"Read":             func() api.Errno { return readError(t, f, no) },
		})
	}
}

// P2.1: 64 names, and none more; one that is there already is told ahead of that.
func TestCreateOfMany(t *testing.T) {
	f := fresh(t, 1)
	var names []string
	for i := range api.MaxFiles {
		name := fmt.Sprintf("n%d", 7*i%api.MaxFiles)
		names = append(names, name)
		is(t, "Create "+name, f.Create(name), api.OK)
		is(t, "Create again", f.Create(name), api.ErrExist)
	}
	slices.Sort(names)
	if got := f.List(); !slices.Equal(got, names) {
		t.Errorf("List: %v", got)
	}
	steps(t, "64 files", f, 64)
	refused(t, f, api.ErrFull, map[string]func() api.Errno{"Create": func() api.Errno { return f.Create("x") }})
	refused(t, f, api.ErrExist, map[string]func() api.Errno{"Create of one of 64": func() api.Errno { return f.Create("n9") }})
	is(t, "Rename of one of 64", f.Rename("n9", "x"), api.OK)
	is(t, "Create of a 65th", f.Create("n9"), api.ErrFull)
	is(t, "Rename over one of 64", f.Rename("x", "n8"), api.OK)
	is(t, "Create of the 64th again", f.Create("n9"), api.OK)
	is(t, "Create of a 65th", f.Create("x"), api.ErrFull)
	is(t, "Remove", f.Remove("n0"), api.OK)
	is(t, "Create of the 64th again", f.Create("x"), api.OK)
	is(t, "Create of a 65th", f.Create("y"), api.ErrFull)
}

// P2.1: List is rising byte by byte, whatever the order in which names came.
func TestList(t *testing.T) {
	want := []string{"-", "-a", ".", "0", "10", "2", "a", "a-", "a.", "a0", "aa", "b", "z"}
	for turn := range want {
		f := fresh(t, 1)
		for i := range want {
			is(t, "Create", f.Create(want[(i*5+turn)%len(want)]), api.OK)
		}
		if got := f.List(); !slices.Equal(got, want) {
			t.Errorf("List: %q, want %q", got, want)
		}
	}
}

// P2.1: bytes go behind the others, up to MaxFile of them, where there is room.
func TestAppend(t *testing.T) {
	f := fresh(t, 1<<20)
	put(t, f, "a", "")
	for _, part := range []string{"x", "", "yz", "\x00\xff\n"} {
		is(t, "Append", f.Append("a", []byte(part)), api.OK)
	}
	is(t, "Append of nil", f.Append("a", nil), api.OK)
	holds(t, "Append", f, "a=xyz\x00\xff\n")
	steps(t, "Append", f, 7)
	is(t, "Append up to MaxFile", f.Append("a", make([]byte, api.MaxFile-6)), api.OK)
	is(t, "Append of none at MaxFile", f.Append("a", nil), api.OK)
	steps(t, "Append", f, 9)
	refused(t, f, api.ErrLong, map[string]func() api.Errno{
		"Append of one more":  func() api.Errno { return f.Append("a", []byte("!")) },
		"Append of many more": func() api.Errno { return f.Append("a", make([]byte, 1<<21)) },
	})
	put(t, f, "b", "")
	refused(t, f, api.ErrLong, map[string]func() api.Errno{"Append": func() api.Errno { return f.Append("b", make([]byte, api.MaxFile+1)) }})
	is(t, "Append of MaxFile", f.Append("b", make([]byte, api.MaxFile)), api.OK)
}

// P2.1: room is that of all files that have a name; too many bytes for a file are told ahead of too many for the room.
func TestRoom(t *testing.T) {
	f := fresh(t, 10)
	put(t, f, "a", "1234")
	put(t, f, "b", "12345")
	is(t, "Append of none", f.Append("b", nil), api.OK)
	steps(t, "so far", f, 5)
	is(t, "Append of two", f.Append("a", []byte("xy")), api.ErrSpace)
	steps(t, "an Append without room is a step", f, 6)
	is(t, "Append of very many", f.Append("a", make([]byte, api.MaxFile-4)), api.ErrSpace)
	is(t, "Append of too many", f.Append("a", make([]byte, api.MaxFile-3)), api.ErrLong)
	steps(t, "and one of too many bytes isn't", f, 7)
	holds(t, "nothing is put", f, "a=1234 b=12345")
	is(t, "Append of the last one", f.Append("a", []byte("x")), api.OK)
	is(t, "Append of one more", f.Append("b", []byte("y")), api.ErrSpace)
	is(t, "Append of none, full", f.Append("b", nil), api.OK)
	is(t, "Create, full", f.Create("c"), api.OK)
	is(t, "Append to an empty one", f.Append("c", []byte("y")), api.ErrSpace)
	is(t, "Remove", f.Remove("a"), api.OK)
	if f.Used() != 5 {
		t.Errorf("Used behind a Remove: %d", f.Used())
	}
	is(t, "Append behind a Remove", f.Append("c", []byte("123456")), api.ErrSpace)
	is(t, "Append behind a Remove", f.Append("c", []byte("12345")), api.OK)
	is(t, "Rename over", f.Rename("c", "b"), api.OK)
	holds(t, "a file without a name takes no room", f, "b=12345")
	is(t, "Append behind a Rename", f.Append("b", []byte("12345")), api.OK)
	is(t, "Append behind a Rename", f.Append("b", []byte("1")), api.ErrSpace)
	holds(t, "full", f, "b=1234512345")
}

// P2.1: all room, in more files than one.
func TestAllRoom(t *testing.T) {
	f := fresh(t, 1<<20)
	for i := range 16 {
		put(t, f, fmt.Sprint(i), strings.Repeat("x", api.MaxFile))
	}
	put(t, f, "more", "")
	is(t, "Append", f.Append("more", []byte("x")), api.ErrSpace)
	if f.Used() != 1<<20 {
		t.Errorf("Used: %d", f.Used())
	}
}

// P2.1: a file is renamed, also over another one, and to its own name.
func TestRename(t *testing.T) {
	f := fresh(t, 100)
	put(t, f, "a", "one")
	put(t, f, "b", "two")
	is(t, "Rename", f.Rename("a", "c"), api.OK)
	holds(t, "a is c", f, "b=two c=one")
	is(t, "Append", f.Append("c", []byte("!")), api.OK)
	is(t, "Rename over", f.Rename("c", "b"), api.OK)
	holds(t, "c is b", f, "b=one!")
	is(t, "Rename to itself", f.Rename("b", "b"), api.OK)
	holds(t, "b is b", f, "b=one!")
	is(t, "Append", f.Append("b", []byte("?")), api.OK)
	holds(t, "and goes on", f, "b=one!?")
	steps(t, "each is a step", f, 9)
	is(t, "Create of a name that is free again", f.Create("a"), api.OK)
	holds(t, "an empty one", f, "a= b=one!?")
	is(t, "Remove", f.Remove("b"), api.OK)
	is(t, "Create", f.Create("b"), api.OK)
	holds(t, "nothing of the elder one is left", f, "a= b=")
}

// P2.1: Read, List, Used, Arm, Plan and Crash are no steps; each of the others is one.
func TestSteps(t *testing.T) {
	f := fresh(t, 100)
	n := 0
	for _, call := range []func() api.Errno{
		func() api.Errno { return f.Create("a") },
		func() api.Errno { return f.Append("a", []byte("x")) },
		func() api.Errno { return f.Append("a", nil) },
		func() api.Errno { return f.Sync("a") },
		f.SyncDir,
		func() api.Errno { return f.Rename("a", "b") },
		func() api.Errno { return f.Rename("b", "b") },
		func() api.Errno { return f.Remove("b") },
		f.SyncDir,
		f.SyncDir,
	} {
		n++
		is(t, fmt.Sprint("step ", n), call(), api.OK)
		steps(t, "a step", f, n)
		f.Read("a")
		f.Read("zz")
		f.Read("A")
		f.List()
		f.Used()
		f.Steps()
		f.Plan(nil)
		f.Crash(1, nil)
		is(t, "Arm", f.Arm(100), api.OK)
		is(t, "Arm", f.Arm(-1), api.ErrRange)
		steps(t, "none", f, n)
	}
}

// stepsOf: one call each that is a step where a has a byte or more, and b is empty and sure.
func stepsOf(f *simfs.FS) map[string]func() api.Errno {
	return map[string]func() api.Errno{
		"Create":        func() api.Errno { return f.Create("new") },
		"Append":        func() api.Errno { return f.Append("b", []byte("123")) },
		"Append of nil": func() api.Errno { return f.Append("b", nil) },
		"Sync":          func() api.Errno { return f.Sync("a") },
		"SyncDir":       f.SyncDir,
		"Rename":        func() api.Errno { return f.Rename("a", "c") },
		"Rename over":   func() api.Errno { return f.Rename("a", "b") },
		"Rename same":   func() api.Errno { return f.Rename("a", "a") },
		"Remove":        func() api.Errno { return f.Remove("a") },
	}
}

// ready: a file system for stepsOf: a isn't sure, b's name alone is.
func ready(t *testing.T) *simfs.FS {
	t.Helper()
	f := fresh(t, 100)
	is(t, "Create", f.Create("b"), api.OK)
	is(t, "SyncDir", f.SyncDir(), api.OK)
	put(t, f, "a", "x")
	return f
}

// P2.1: each step, and each number planned for it: with what it fails, and that it does nothing then, but an Append.
func TestPlannedNumbers(t *testing.T) {
	for what := range stepsOf(nil) {
		for _, k := range []int{0, 1, 2, 3, 4, 5, 6, 7, 1000, math.MaxInt, -1, -2, -3, -1000, math.MinInt, math.MinInt + 1, math.MinInt + 2, math.MinInt + 3} {
			f := ready(t)
			f.Plan([]int{k})
			want, rest := api.ErrIO, ""
			if k == 0 {
				want = api.OK
			}
			if k == 2 {
				want = api.ErrSpace
			}
			if what == "Append" && k > 2 {
				rest = "123"[:min(k-3, 3)]
			}
			said := fmt.Sprintf("%s, with %d planned", what, k)
			is(t, said, stepsOf(f)[what](), want)
			steps(t, said, f, 5)
			if k == 0 {
				continue
			}
			holds(t, said, f, "a=x b="+rest)
			holds(t, said+", then Crash(0)", f.Crash(0, []int{9, 9}), "b="+rest)
			holds(t, said+", then Crash(9)", f.Crash(9, nil), "a= b=")
			is(t, said+", then the next one", f.Append("b", []byte("z")), api.OK)
			holds(t, said+", then the next one", f, "a=x b="+rest+"z")
		}
	}
}

// P2.1: one number for each step, refused calls taking none; the steps behind the list's end go well.
func TestPlanOfMany(t *testing.T) {
	f := fresh(t, 100)
	f.Plan([]int{0, 1, 2, 0, 5, -7, 0})
	is(t, "0", f.Create("a"), api.OK)
	refused(t, f, api.ErrNone, map[string]func() api.Errno{"Sync": func() api.Errno { return f.Sync("b") }})
	refused(t, f, api.ErrExist, map[string]func() api.Errno{"Create": func() api.Errno { return f.Create("a") }})
	refused(t, f, api.ErrName, map[string]func() api.Errno{"Create": func() api.Errno { return f.Create("A") }})
	refused(t, f, api.ErrLong, map[string]func() api.Errno{"Append": func() api.Errno { return f.Append("a", make([]byte, api.MaxFile+1)) }})
	is(t, "1", f.Create("b"), api.ErrIO)
	refused(t, f, api.ErrNone, map[string]func() api.Errno{"Append": func() api.Errno { return f.Append("b", nil) }})
	is(t, "2", f.SyncDir(), api.ErrSpace)
	is(t, "0", f.SyncDir(), api.OK)
	is(t, "5", f.Append("a", []byte("xyz")), api.ErrIO)
	f.Crash(0, nil)
	is(t, "-7", f.Remove("a"), api.ErrIO)
	is(t, "0", f.Append("a", []byte("u")), api.OK)
	for range 5 {
		is(t, "behind the end", f.Append("a", []byte("v")), api.OK)
	}
	holds(t, "what is put", f, "a=xyuvvvvv")
	steps(t, "and failed", f, 12)
}

// P2.1: ErrFull takes nothing from the plan.
func TestPlanAndFull(t *testing.T) {
	f := fresh(t, 1)
	for i := range api.MaxFiles {
		is(t, "Create", f.Create(fmt.Sprint(i)), api.OK)
	}
	f.Plan([]int{2})
	is(t, "Create", f.Create("x"), api.ErrFull)
	is(t, "Remove", f.Remove("0"), api.ErrSpace)
	is(t, "Remove", f.Remove("0"), api.OK)
}

// P2.1: a list takes the place of what was planned, an empty one too.
func TestPlanInPlace(t *testing.T) {
	for _, l := range [][]int{nil, {}, {0}} {
		f := fresh(t, 100)
		f.Plan([]int{1, 1, 1, 1})
		is(t, "Create", f.Create("a"), api.ErrIO)
		f.Plan(l)
		is(t, "Create", f.Create("a"), api.OK)
		is(t, "SyncDir", f.SyncDir(), api.OK)
	}
	f := fresh(t, 100)
	f.Plan([]int{0, 0, 1})
	f.Plan([]int{2, 1})
	is(t, "Create", f.Create("a"), api.ErrSpace)
	is(t, "Create", f.Create("a"), api.ErrIO)
	is(t, "Create", f.Create("a"), api.OK)
}

// P2.1: what is planned is ahead of the room that there isn't; what is put has room at most.
func TestPlannedWithoutRoom(t *testing.T) {
	f := fresh(t, 10)
	put(t, f, "a", "1234567")
	for _, c := range []struct {
		k    int
		want api.Errno
		rest string
	}{
		{0, api.ErrSpace, ""}, {1, api.ErrIO, ""}, {2, api.ErrSpace, ""}, {3, api.ErrIO, ""}, {-1, api.ErrIO, ""},
		{4, api.ErrIO, "u"}, {5, api.ErrIO, "uv"}, {6, api.ErrIO, "uvw"}, {7, api.ErrIO, "uvw"}, {math.MaxInt, api.ErrIO, "uvw"},
	} {
		x := f.Crash(1, []int{9})
		x.Plan([]int{c.k})
		is(t, fmt.Sprint("Append, planned ", c.k), x.Append("a", []byte("uvwxy")), c.want)
		holds(t, fmt.Sprint("Append, planned ", c.k), x, "a=1234567"+c.rest)
		is(t, "Append of what has room", x.Append("a", []byte("zzz")[len(c.rest):]), api.OK)
		x.Plan([]int{c.k, 5})
		is(t, "a room that isn't there takes the number", x.Append("a", []byte("!")), c.want)
		is(t, "and leaves the next one", x.Append("a", []byte("!")), api.ErrIO)
		if x.Used() != 10 {
			t.Errorf("Used: %d", x.Used())
		}
	}
}

// P2.1: a file that is as long as one may be is told ahead of what is planned, and a part may fill it.
func TestPlannedAtMaxFile(t *testing.T) {
	f := fresh(t, 1<<20)
	put(t, f, "a", strings.Repeat("x", api.MaxFile-2))
	f.Plan([]int{1000})
	is(t, "Append of too many", f.Append("a", []byte("123")), api.ErrLong)
	is(t, "Append of all", f.Append("a", []byte("12")), api.ErrIO)
	is(t, "Append of one more", f.Append("a", []byte("1")), api.ErrLong)
	if b, e := f.Read("a"); e != api.OK || len(b) != api.MaxFile || !strings.HasSuffix(string(b), "x12") {
		t.Errorf("Read: %d bytes, %d", len(b), e)
	}
}

// P2.1: so many steps are done as it is armed with; then each answers ErrDead, and nothing is changed any more.
func TestArm(t *testing.T) {
	for n := range 6 {
		f := ready(t)
		is(t, "Arm", f.Arm(n), api.OK)
		for i := range n {
			is(t, fmt.Sprint("step ", i), f.Append("b", []byte("y")), api.OK)
		}
		was := "a=x b=" + strings.Repeat("y", n)
		holds(t, "what was done", f, was)
		steps(t, "what was done", f, 4+n)
		for what, step := range stepsOf(f) {
			is(t, what+" of a dead one", step(), api.ErrDead)
			holds(t, what+" of a dead one", f, was)
			steps(t, what+" of a dead one", f, 4+n)
		}
		holds(t, "nothing is sure", f.Crash(0, nil), "b=")
		holds(t, "nothing is lost", f.Crash(9, []int{9, 9}), was)
	}
}

// P2.1: one that is armed with 2^63 - 1 isn't dead, till it is armed with none.
func TestArmWithMany(t *testing.T) {
	for what := range stepsOf(nil) {
		f := ready(t)
		is(t, "Arm", f.Arm(math.MaxInt), api.OK)
		is(t, what, stepsOf(f)[what](), api.OK)
		is(t, "SyncDir", f.SyncDir(), api.OK)
		is(t, "Arm again", f.Arm(0), api.OK)
		is(t, "SyncDir", f.SyncDir(), api.ErrDead)
	}
}

// P2.1: refused calls take none of the steps that are left; those that fail take one each.
func TestArmCountsSteps(t *testing.T) {
	f := fresh(t, 3)
	put(t, f, "a", "xyz")
	f.Plan([]int{1, 2, 4})
	is(t, "Arm", f.Arm(5), api.OK)
	for range 10 {
		is(t, "Create", f.Create("a"), api.ErrExist)
		is(t, "Create", f.Create("A"), api.ErrName)
		is(t, "Sync", f.Sync("b"), api.ErrNone)
		is(t, "Append", f.Append("a", make([]byte, api.MaxFile)), api.ErrLong)
		f.Read("a")
		f.Crash(0, nil)
	}
	is(t, "planned 1", f.Sync("a"), api.ErrIO)
	is(t, "planned 2", f.Sync("a"), api.ErrSpace)
	is(t, "planned 4", f.Append("a", nil), api.ErrIO)
	is(t, "without room", f.Append("a", []byte("!")), api.ErrSpace)
	is(t, "the last one", f.Sync("a"), api.OK)
	is(t, "none is left", f.Sync("a"), api.ErrDead)
	steps(t, "all", f, 7)
}

// P2.1: what is wrong with a call is told ahead of that the power has gone; that ahead of what is planned, and of the room.
func TestDead(t *testing.T) {
	f := fresh(t, 3)
	put(t, f, "a", "xyz")
	f.Plan([]int{1, 2, 9})
	is(t, "Arm(0)", f.Arm(0), api.OK)
	is(t, "Arm below 0", f.Arm(-1), api.ErrRange)
	is(t, "Arm below 0", f.Arm(math.MinInt), api.ErrRange)
	is(t, "Arm(0)", f.Arm(0), api.ErrDead)
	is(t, "Arm(5)", f.Arm(5), api.ErrDead)
	is(t, "no name", f.Create("A"), api.ErrName)
	is(t, "there already", f.Create("a"), api.ErrExist)
	is(t, "not there", f.Sync("b"), api.ErrNone)
	is(t, "too long", f.Append("a", make([]byte, api.MaxFile)), api.ErrLong)
	is(t, "without room", f.Append("a", []byte("1")), api.ErrDead)
	is(t, "with room", f.Append("a", nil), api.ErrDead)
	is(t, "SyncDir", f.SyncDir(), api.ErrDead)
	is(t, "Sync", f.Sync("a"), api.ErrDead)
	is(t, "Create", f.Create("b"), api.ErrDead)
	f.Plan([]int{0, 9})
	is(t, "Append", f.Append("a", nil), api.ErrDead)
	holds(t, "what there is can be read", f, "a=xyz")
	steps(t, "a dead one has none", f, 2)
	is(t, "what is left isn't dead", f.Crash(1, []int{3}).Sync("a"), api.OK)
}

// P2.1: 64 names in a dead one are told ahead of that.
func TestDeadAndFull(t *testing.T) {
	f := fresh(t, 1)
	for i := range api.MaxFiles {
		is(t, "Create", f.Create(fmt.Sprint(i)), api.OK)
	}
	is(t, "Arm", f.Arm(0), api.OK)
	is(t, "Create", f.Create("x"), api.ErrFull)
}

// P2.1: armed again, it is the new number that counts; refused, the elder one.
func TestArmAgain(t *testing.T) {
	f := ready(t)
	is(t, "Arm(1)", f.Arm(1), api.OK)
	is(t, "Arm(3)", f.Arm(3), api.OK)
	is(t, "Arm(-1)", f.Arm(-1), api.ErrRange)
	is(t, "first", f.SyncDir(), api.OK)
	is(t, "second", f.SyncDir(), api.OK)
	is(t, "Arm(1)", f.Arm(1), api.OK)
	is(t, "third", f.SyncDir(), api.OK)
	is(t, "fourth", f.SyncDir(), api.ErrDead)
	is(t, "Arm", f.Arm(1), api.ErrDead)
	g := ready(t)
	is(t, "Arm(-1), not armed", g.Arm(-1), api.ErrRange)
	is(t, "not armed", g.SyncDir(), api.OK)
}

// P2.3: bytes and lists that are handed in stay, spare room too, and what becomes of them later counts for nothing.
func TestHandedIn(t *testing.T) {
	whole := []byte("0123456789")
	f := fresh(t, 100)
	is(t, "Create", f.Create("a"), api.OK)
	is(t, "Append", f.Append("a", whole[2:5]), api.OK)
	is(t, "Append", f.Append("a", []byte("uv")), api.OK)
	plan := []int{5, 1, 0, 1, 7, 7}
	f.Plan(plan[:4])
	plan[0] = 0
	is(t, "Append, planned 5", f.Append("a", whole[5:8]), api.ErrIO)
	plan[1], plan[2], plan[3] = 0, 1, 0
	is(t, "planned 1", f.Sync("a"), api.ErrIO)
	is(t, "planned 0", f.Sync("a"), api.OK)
	is(t, "planned 1", f.Sync("a"), api.ErrIO)
	is(t, "behind the end", f.Sync("a"), api.OK)
	if string(whole) != "0123456789" || !slices.Equal(plan, []int{0, 0, 1, 0, 7, 7}) {
		t.Errorf("what was handed in changed: %q, %v", whole, plan)
	}
	clear(whole)
	holds(t, "what was put", f, "a=234uv56")
	tails := []int{-1, 1, 2}
	f.Crash(1, tails[:1])
	if !slices.Equal(tails, []int{-1, 1, 2}) {
		t.Errorf("tails: %v", tails)
	}
}

// P2.3: what is read is one's own, spare room too; it stays as it is whatever is done later.
func TestReadIsNew(t *testing.T) {
	f := fresh(t, 1000)
	put(t, f, "a", "")
	text := ""
	for i := range 40 {
		b, _ := f.Read("a")
		other, _ := f.Read("a")
		is(t, "Append", f.Append("a", []byte{byte('0' + i)}), api.OK)
		clear(b[:cap(b)])
		if string(other) != text {
			t.Errorf("Read changed with another answer, or with an Append: %q, want %q", other, text)
		}
		text += string(byte('0' + i))
		holds(t, "Read", f, "a="+text)
	}
}

// P2.3: a list of names is one's own, spare room too.
func TestListIsNew(t *testing.T) {
	f := fresh(t, 1)
	var want []string
	for i := range 40 {
		l, other := f.List(), f.List()
		want = append(want, fmt.Sprintf("f%02d", i))
		is(t, "Create", f.Create(want[i]), api.OK)
		clear(l[:cap(l)])
		if !slices.Equal(other, want[:i]) {
			t.Errorf("List changed with another answer, or with a Create: %q", other)
		}
		if got := f.List(); !slices.Equal(got, want) {
			t.Errorf("List: %q, want %q", got, want)
		}
	}
}

// P6: numbers of every size are taken, and each call ends.
func TestExtremes(t *testing.T) {
	far := []int{math.MinInt, math.MinInt + 2, math.MinInt + 3, -1, 0, 3, 1 << 40, math.MaxInt - 1, math.MaxInt}
	f := fresh(t, 10)
	for _, k := range far {
		f.Plan([]int{k})
		f.Create("a")
		f.Plan([]int{k})
		f.Append("a", []byte("xy"))
		f.Crash(k, []int{k})
		f.Crash(k, far)
		if b, e := f.Read("a"); e == api.OK && !bytes.HasPrefix([]byte("xyxyxyxyxyxyxyxy"), b) {
			t.Errorf("planned %d: %q", k, b)
		}
		f.Remove("a")
	}
	f.Plan(make([]int, 100000))
	f.Plan(far)
	for range far {
		f.SyncDir()
	}
	is(t, "SyncDir", f.SyncDir(), api.OK)
}
