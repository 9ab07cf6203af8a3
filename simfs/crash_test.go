package simfs_test

import (
	"fmt"
	"math"
	"strings"
	"testing"

	"rubric/api"
	"rubric/simfs"
)

// busy: one with five directory changes that aren't sure, and three files: of the first three bytes are sure of five,
// of the second two of three, of the third none of two.
func busy(t *testing.T) *simfs.FS {
	t.Helper()
	f := fresh(t, 1000)
	put(t, f, "a", "abc")
	is(t, "Sync", f.Sync("a"), api.OK)
	is(t, "SyncDir", f.SyncDir(), api.OK)
	is(t, "Append", f.Append("a", []byte("de")), api.OK)
	put(t, f, "b", "xy")
	is(t, "Sync", f.Sync("b"), api.OK)
	is(t, "Append", f.Append("b", []byte("z")), api.OK)
	is(t, "Rename", f.Rename("b", "c"), api.OK)
	put(t, f, "b", "12")
	is(t, "Remove", f.Remove("a"), api.OK)
	is(t, "Rename over", f.Rename("c", "b"), api.OK)
	return f
}

// busyStates: of which of busy's files each name is, behind so many of the directory changes.
func busyStates() [][]string {
	return [][]string{{"a0"}, {"a0", "b1"}, {"a0", "c1"}, {"a0", "b2", "c1"}, {"b2", "c1"}, {"b1"}}
}

// busyFile: what a crash leaves of one of busy's files.
func busyFile(number, tail int) string {
	text := []string{"abcde", "xyz", "12"}[number]
	sure := []int{3, 2, 0}[number]
	return text[:sure+min(max(tail, 0), len(text)-sure)]
}

// P2.1, P2.2: every number of directory changes, and every number of each file's bytes.
func TestEveryCrash(t *testing.T) {
	f := busy(t)
	was, n := content(t, f), f.Steps()
	for dirs := -2; dirs < 9; dirs++ {
		for i := range 5 * 5 * 5 {
			tails := []int{i%5 - 1, i/5%5 - 1, i/25 - 1}
			var want []string
			for _, s := range busyStates()[min(max(dirs, 0), 5)] {
				number := int(s[1] - '0')
				want = append(want, s[:1]+"="+busyFile(number, tails[number]))
			}
			said := fmt.Sprintf("Crash(%d, %v)", dirs, tails)
			x := f.Crash(dirs, tails)
			holds(t, said, x, strings.Join(want, " "))
			steps(t, said, x, 0)
		}
	}
	holds(t, "the old one stays", f, was)
	steps(t, "the old one stays", f, n)
}

// P2.1: tails that are shorter than the files are many, that are longer, and that are far from what there is.
func TestTails(t *testing.T) {
	f := busy(t)
	for _, c := range []struct {
		dirs  int
		tails []int
		want  string
	}{
		{3, nil, "a=abc b= c=xy"},
		{3, []int{}, "a=abc b= c=xy"},
		{3, []int{1}, "a=abcd b= c=xy"},
		{3, []int{0, 1}, "a=abc b= c=xyz"},
		{3, []int{9, 9, 9, 9, 9, 9}, "a=abcde b=12 c=xyz"},
		{3, []int{-9, math.MinInt, 1}, "a=abc b=1 c=xy"},
		{3, []int{math.MaxInt, math.MaxInt - 1, math.MaxInt}, "a=abcde b=12 c=xyz"},
		{math.MaxInt, []int{1, 1, 1}, "b=xyz"},
		{math.MinInt, []int{1, 1, 1}, "a=abcd"},
		{0, []int{1, 1, 1}, "a=abcd"},
	} {
		holds(t, fmt.Sprintf("Crash(%d, %v)", c.dirs, c.tails), f.Crash(c.dirs, c.tails), c.want)
	}
}

// P2.2: all that is in a file that was synced, and whose name was sure, is there behind any crash, and nothing that wasn't put.
func TestWhatIsSure(t *testing.T) {
	f := fresh(t, 1000)
	put(t, f, "a", "sure")
	is(t, "Sync", f.Sync("a"), api.OK)
	holds(t, "a name that isn't sure", f.Crash(0, []int{9}), "")
	is(t, "SyncDir", f.SyncDir(), api.OK)
	is(t, "Append", f.Append("a", []byte(" more")), api.OK)
	for dirs := range 3 {
		for tail := range 8 {
			holds(t, "Crash", f.Crash(dirs, []int{tail}), "a=sure more"[:min(6+tail, 11)])
		}
	}
	is(t, "Sync", f.Sync("a"), api.OK)
	holds(t, "synced again", f.Crash(0, nil), "a=sure more")
}

// P2.1: Sync is of one file alone, and of no name; SyncDir of all names, and of no bytes.
func TestSyncs(t *testing.T) {
	f := fresh(t, 1000)
	put(t, f, "a", "aa")
	put(t, f, "b", "bb")
	is(t, "Sync", f.Sync("a"), api.OK)
	holds(t, "Sync makes no name sure", f.Crash(0, []int{9, 9}), "")
	holds(t, "Sync is of one file", f.Crash(9, nil), "a=aa b=")
	is(t, "SyncDir", f.SyncDir(), api.OK)
	holds(t, "SyncDir makes no bytes sure", f.Crash(0, nil), "a=aa b=")
	is(t, "Remove", f.Remove("a"), api.OK)
	holds(t, "a Remove isn't sure", f.Crash(0, nil), "a=aa b=")
	holds(t, "a Remove that is kept", f.Crash(1, nil), "b=")
	is(t, "SyncDir", f.SyncDir(), api.OK)
	holds(t, "a Remove that is sure", f.Crash(0, nil), "b=")
	is(t, "SyncDir without a change", f.SyncDir(), api.OK)
	holds(t, "nothing new", f.Crash(0, nil), "b=")
}

// P2.2: what was sure stays so whatever comes behind it, also when a step fails.
func TestFailedSyncs(t *testing.T) {
	f := fresh(t, 1000)
	put(t, f, "a", "aa")
	f.Plan([]int{1, 2, 3, 4, -1, 1, 2, 3, 4, -1})
	for _, want := range []api.Errno{api.ErrIO, api.ErrSpace, api.ErrIO, api.ErrIO, api.ErrIO} {
		is(t, "Sync", f.Sync("a"), want)
		holds(t, "a Sync that failed", f.Crash(1, nil), "a=")
	}
	for _, want := range []api.Errno{api.ErrIO, api.ErrSpace, api.ErrIO, api.ErrIO, api.ErrIO} {
		is(t, "SyncDir", f.SyncDir(), want)
		holds(t, "a SyncDir that failed", f.Crash(0, nil), "")
	}
	is(t, "SyncDir", f.SyncDir(), api.OK)
	is(t, "Sync", f.Sync("a"), api.OK)
	f.Plan([]int{5})
	is(t, "Append", f.Append("a", []byte("xyz")), api.ErrIO)
	holds(t, "what an Append put that failed isn't sure", f.Crash(0, nil), "a=aa")
	holds(t, "but may be kept", f.Crash(0, []int{9}), "a=aaxy")
}

// P2.1: a Create that failed, or was refused, is no file, and no directory change.
func TestFailedCreatesDontCount(t *testing.T) {
	f := fresh(t, 1000)
	f.Plan([]int{1, 0, 2, 0, 9, 0})
	is(t, "Create", f.Create("a"), api.ErrIO)
	is(t, "Create", f.Create("a"), api.OK)
	is(t, "Create", f.Create("a"), api.ErrExist)
	is(t, "Create", f.Create("b"), api.ErrSpace)
	is(t, "Append", f.Append("a", []byte("aaa")), api.OK)
	is(t, "Create", f.Create("b"), api.ErrIO)
	is(t, "Create", f.Create("b"), api.OK)
	is(t, "Append", f.Append("b", []byte("bbb")), api.OK)
	holds(t, "two files", f.Crash(2, []int{1, 2}), "a=a b=bb")
	holds(t, "two changes", f.Crash(1, []int{1, 2}), "a=a")
}

// P2.1: a Rename of a name to itself is a directory change, too; one that failed isn't.
func TestRenameToItselfCounts(t *testing.T) {
	f := fresh(t, 1000)
	put(t, f, "a", "")
	is(t, "Rename", f.Rename("a", "a"), api.OK)
	f.Plan([]int{1, 2})
	is(t, "Rename", f.Rename("a", "c"), api.ErrIO)
	is(t, "Remove", f.Remove("a"), api.ErrSpace)
	is(t, "Rename", f.Rename("a", "b"), api.OK)
	for dirs, want := range []string{"", "a=", "a=", "b=", "b="} {
		holds(t, fmt.Sprint("Crash ", dirs), f.Crash(dirs, nil), want)
	}
}

// P2.1: the k-th file is the k-th that was created, whatever its name was, or is, and whether it still has one.
func TestFilesAreCounted(t *testing.T) {
	f := fresh(t, 1000)
	put(t, f, "z", "00000")
	put(t, f, "y", "11111")
	is(t, "Remove", f.Remove("z"), api.OK)
	put(t, f, "z", "22222")
	is(t, "Rename", f.Rename("z", "x"), api.OK)
	put(t, f, "z", "33333")
	is(t, "Rename", f.Rename("y", "a"), api.OK)
	is(t, "SyncDir", f.SyncDir(), api.OK)
	is(t, "Remove", f.Remove("a"), api.OK)
	put(t, f, "a", "44444")
	holds(t, "all changes", f.Crash(2, []int{1, 2, 3, 4, 5}), "a=44444 x=222 z=3333")
	holds(t, "no changes", f.Crash(0, []int{1, 2, 3, 4, 5}), "a=11 x=222 z=3333")
}

// P2.2: a file that another one was renamed over, or that was removed, is there again with all that it had.
func TestRenamedOver(t *testing.T) {
	f := fresh(t, 10)
	put(t, f, "new", "123")
	put(t, f, "old", "456")
	is(t, "Sync", f.Sync("old"), api.OK)
	is(t, "SyncDir", f.SyncDir(), api.OK)
	is(t, "Append", f.Append("old", []byte("7")), api.OK)
	is(t, "Rename over", f.Rename("new", "old"), api.OK)
	is(t, "Append", f.Append("old", []byte("abc")), api.OK)
	is(t, "Sync", f.Sync("old"), api.OK)
	holds(t, "ahead of the Rename", f.Crash(0, []int{0, 9}), "new=123abc old=4567")
	holds(t, "behind the Rename", f.Crash(1, nil), "old=123abc")
	is(t, "SyncDir", f.SyncDir(), api.OK)
	holds(t, "the Rename is sure", f.Crash(0, nil), "old=123abc")
}

// P2.1: behind a crash there may be more than there is room: then not even nothing is put.
func TestMoreThanRoom(t *testing.T) {
	f := fresh(t, 10)
	put(t, f, "a", "12345678")
	put(t, f, "b", "")
	is(t, "Sync", f.Sync("a"), api.OK)
	is(t, "SyncDir", f.SyncDir(), api.OK)
	is(t, "Remove", f.Remove("a"), api.OK)
	is(t, "Append", f.Append("b", []byte("123456789")), api.OK)
	for _, tail := range []int{2, 3} {
		x := f.Crash(0, []int{0, tail})
		want := api.OK
		if tail == 3 {
			want = api.ErrSpace
		}
		is(t, fmt.Sprint("Append of none where so many are used: ", x.Used()), x.Append("a", nil), want)
		is(t, "Append", x.Append("b", []byte("!")), api.ErrSpace)
	}
	x := f.Crash(0, []int{0, 9})
	before := "a=12345678 b=123456789"
	holds(t, "more than room", x, before)
	is(t, "Append of none", x.Append("a", nil), api.ErrSpace)
	steps(t, "that is a step", x, 1)
	x.Plan([]int{1, 2, 3, 4, 100, -1, 0})
	for _, want := range []api.Errno{api.ErrIO, api.ErrSpace, api.ErrIO, api.ErrIO, api.ErrIO, api.ErrIO, api.ErrSpace, api.ErrSpace} {
		is(t, "Append", x.Append("b", []byte("xy")), want)
		holds(t, "nothing is put", x, before)
	}
	x.Plan([]int{5, 0})
	is(t, "Append of none, planned", x.Append("a", []byte{}), api.ErrIO)
	is(t, "Append of none", x.Append("a", []byte{}), api.ErrSpace)
	is(t, "Create", x.Create("c"), api.OK)
	is(t, "Sync", x.Sync("a"), api.OK)
	is(t, "Rename", x.Rename("c", "d"), api.OK)
	is(t, "Remove", x.Remove("a"), api.OK)
	is(t, "Append, with room again", x.Append("d", []byte("1")), api.OK)
	is(t, "Append, without", x.Append("d", []byte("1")), api.ErrSpace)
}

// P2.1: what a crash leaves has the same room, no plan, and isn't armed; and all of it is sure.
func TestWhatIsLeft(t *testing.T) {
	f := fresh(t, 7)
	put(t, f, "b", "123")
	f.Plan([]int{1, 1, 1, 1, 1, 1})
	is(t, "Arm", f.Arm(2), api.OK)
	is(t, "Sync", f.Sync("b"), api.ErrIO)
	x := f.Crash(1, []int{2})
	steps(t, "what is left", x, 0)
	holds(t, "all is sure", x.Crash(0, nil), "b=12")
	holds(t, "there is nothing else", x.Crash(9, []int{9, 9}), "b=12")
	is(t, "without a plan", x.Sync("b"), api.OK)
	is(t, "not armed", x.Create("a"), api.OK)
	is(t, "the same room", x.Append("a", []byte("123456")), api.ErrSpace)
	is(t, "the same room", x.Append("a", []byte("12345")), api.OK)
	for range 5 {
		is(t, "not armed", x.SyncDir(), api.OK)
	}
	is(t, "the old one's plan stays", f.Sync("b"), api.ErrIO)
	is(t, "the old one is dead", f.Sync("b"), api.ErrDead)
	is(t, "what a dead one leaves isn't", f.Crash(1, nil).Sync("b"), api.OK)
	steps(t, "the old one's", f, 4)
}

// P2.1: 64 names behind a crash, too.
func TestManyNamesBehindACrash(t *testing.T) {
	f := fresh(t, 1)
	for i := range api.MaxFiles {
		is(t, "Create", f.Create(fmt.Sprint(i)), api.OK)
	}
	is(t, "SyncDir", f.SyncDir(), api.OK)
	is(t, "Remove", f.Remove("0"), api.OK)
	is(t, "Create", f.Create("new"), api.OK)
	for dirs, want := range []api.Errno{api.ErrFull, api.OK, api.ErrFull} {
		is(t, fmt.Sprint("Create behind Crash ", dirs), f.Crash(dirs, nil).Create("more"), want)
	}
}

// P2.1: behind a crash files count from 0 again, by the order of their names, and those created later behind them.
func TestFilesAreCountedAnew(t *testing.T) {
	f := fresh(t, 1000)
	for _, name := range []string{"c", "gone", "a", "b"} {
		is(t, "Create", f.Create(name), api.OK)
	}
	is(t, "Remove", f.Remove("gone"), api.OK)
	x := f.Crash(9, nil)
	is(t, "Create", x.Create("0"), api.OK)
	for _, name := range []string{"c", "a", "0", "b"} {
		is(t, "Append", x.Append(name, []byte("12345")), api.OK)
	}
	holds(t, "all", x.Crash(1, []int{1, 2, 3, 4}), "0=1234 a=1 b=12 c=123")
	y := x.Crash(1, []int{1, 2, 3, 4})
	for _, name := range y.List() {
		is(t, "Append", y.Append(name, []byte("!!!!!")), api.OK)
	}
	holds(t, "again", y.Crash(0, []int{1, 2, 3, 4, 5}), "0=1234! a=1!! b=12!!! c=123!!!!")
	z := f.Crash(1, nil)
	is(t, "Create", z.Create("a"), api.OK)
	is(t, "Append", z.Append("a", []byte("12345")), api.OK)
	holds(t, "one of four is left", z.Crash(1, []int{0, 2, 3}), "a=12 c=")
}

// P2.1: a crash of what a crash left, and of what that left.
func TestCrashOfACrash(t *testing.T) {
	f := busy(t)
	x := f.Crash(3, []int{1, 1, 1})
	holds(t, "first", x, "a=abcd b=1 c=xyz")
	is(t, "Append", x.Append("b", []byte("uvw")), api.OK)
	is(t, "Rename", x.Rename("b", "c"), api.OK)
	is(t, "Remove", x.Remove("a"), api.OK)
	for dirs, want := range []string{"a=abcd b=1uv c=xyz", "a=abcd c=1uv", "c=1uv"} {
		y := x.Crash(dirs, []int{0, 2, 9})
		holds(t, "second", y, want)
		holds(t, "third, at once", y.Crash(0, nil), want)
		is(t, "Append", y.Append("c", []byte("!")), api.OK)
		holds(t, "third", y.Crash(9, nil), want)
		holds(t, "third, with what came", y.Crash(9, []int{1, 1, 1}), want+"!")
		is(t, "Sync", y.Sync("c"), api.OK)
		holds(t, "third, synced", y.Crash(0, nil), want+"!")
	}
	holds(t, "the first one stays", x, "c=1uvw")
	holds(t, "the old one stays", f, "b=xyz")
}

// P2.3: neither the old one nor what is left of it, nor two that are left, change with one another.
func TestCrashIsOfItsOwn(t *testing.T) {
	f := fresh(t, 1000)
	put(t, f, "a", "1234567890")
	is(t, "SyncDir", f.SyncDir(), api.OK)
	put(t, f, "b", "12")
	for n := range 11 {
		head := "1234567890"[:n]
		x, y := f.Crash(1, []int{n, 2}), f.Crash(1, []int{n, 2})
		is(t, "Append", x.Append("a", []byte("xx")), api.OK)
		is(t, "Append", y.Append("a", []byte("yyy")), api.OK)
		is(t, "Remove", x.Remove("b"), api.OK)
		is(t, "Create", y.Create("c"), api.OK)
		is(t, "SyncDir", x.SyncDir(), api.OK)
		is(t, "Rename", y.Rename("b", "d"), api.OK)
		x.Plan([]int{1, 1})
		is(t, "Arm", x.Arm(0), api.OK)
		holds(t, "one", x, "a="+head+"xx")
		holds(t, "the other", y, "a="+head+"yyy c= d=12")
		holds(t, "the other, crashed", y.Crash(0, nil), "a="+head+" b=12")
		holds(t, "the old one", f, "a=1234567890 b=12")
		holds(t, "the old one, crashed", f.Crash(0, []int{9}), "a=123456789")
	}
	x := f.Crash(1, []int{99, 99})
	is(t, "Append", f.Append("a", []byte("old")), api.OK)
	is(t, "Append", x.Append("a", []byte("new")), api.OK)
	is(t, "Remove", f.Remove("b"), api.OK)
	is(t, "SyncDir", f.SyncDir(), api.OK)
	holds(t, "the old one", f, "a=1234567890old")
	holds(t, "what is left", x, "a=1234567890new b=12")
}
