package seglog_test

import (
	"bytes"
	"fmt"
	"math"
	"slices"
	"strings"
	"sync"
	"testing"

	"rubric/api"
	"rubric/frame"
	"rubric/seglog"
	"rubric/simfs"
)

// The faces that the document lists, signatures and all.
var (
	_ func(int) (string, api.Errno)                             = seglog.Name
	_ func(string) (int, bool)                                  = seglog.ID
	_ func(*simfs.FS, int) api.Errno                            = seglog.Create
	_ func(*simfs.FS, int, int, ...[]byte) api.Errno            = seglog.Append
	_ func(*simfs.FS, ...int) ([]seglog.Entry, bool, api.Errno) = seglog.Read
	_                                                           = seglog.Entry{Seg: 1, Frame: frame.Frame{}}
)

// outside: ids that no segment has.
var outside = []int{0, -1, -2, -12, 1 << 31, 1<<31 + 1, 1<<32 + 1, math.MinInt, math.MaxInt}

// fresh: a file system of so much room.
func fresh(t *testing.T, room int) *simfs.FS {
	t.Helper()
	f, e := simfs.New(room)
	if e != api.OK {
		t.Fatalf("New(%d): %d", room, e)
	}
	return f
}

// is: whether that error was answered.
func is(t *testing.T, what string, got, want api.Errno) {
	t.Helper()
	if got != want {
		t.Errorf("%s: %d, want %d", what, got, want)
	}
}

// steps: whether there were so many.
func steps(t *testing.T, what string, f *simfs.FS, want int) {
	t.Helper()
	if f.Steps() != want {
		t.Errorf("%s: %d steps, want %d", what, f.Steps(), want)
	}
}

// put: a file of these bytes, name and all sure.
func put(t *testing.T, f *simfs.FS, name string, b []byte) {
	t.Helper()
	is(t, "Create "+name, f.Create(name), api.OK)
	is(t, "Append "+name, f.Append(name, b), api.OK)
	is(t, "Sync "+name, f.Sync(name), api.OK)
	is(t, "SyncDir", f.SyncDir(), api.OK)
}

// content: all names, rising, and what is in each.
func content(t *testing.T, f *simfs.FS) string {
	t.Helper()
	var l []string
	for _, name := range f.List() {
		b, e := f.Read(name)
		is(t, "Read "+name, e, api.OK)
		l = append(l, fmt.Sprintf("%s=%x", name, b))
	}
	return strings.Join(l, " ")
}

// row: frames' bytes, one behind the other; of each its kind is the first byte, its payload the others.
func row(t *testing.T, frames ...string) []byte {
	t.Helper()
	var l []byte
	for _, s := range frames {
		b, e := frame.Encode(int(s[0]-'0'), []byte(s[1:]))
		is(t, "Encode", e, api.OK)
		l = append(l, b...)
	}
	return l
}

// told: entries as a text.
func told(l []seglog.Entry) string {
	var s []string
	for _, x := range l {
		s = append(s, fmt.Sprintf("%d:%d%s", x.Seg, x.Kind, x.Payload))
	}
	return strings.Join(s, " ")
}

// reads: whether Read answers these entries, and whether they are whole.
func reads(t *testing.T, what string, f *simfs.FS, want string, whole bool, ids ...int) {
	t.Helper()
	n, was := f.Steps(), content(t, f)
	l, got, e := seglog.Read(f, ids...)
	if e != api.OK || told(l) != want || got != whole {
		t.Errorf("%s: Read(%v): %.200q, %v, %d; want %.200q, %v", what, ids, told(l), got, e, want, whole)
	}
	if f.Steps() != n || content(t, f) != was {
		t.Errorf("%s: Read(%v) did something", what, ids)
	}
}

// refusesRead: whether Read answers this error, and nothing beside it.
func refusesRead(t *testing.T, what string, f *simfs.FS, want api.Errno, ids ...int) {
	t.Helper()
	l, whole, e := seglog.Read(f, ids...)
	if e != want || len(l) != 0 || whole {
		t.Errorf("%s: Read(%v): %.200q, %v, %d; want %d alone", what, ids, told(l), whole, e, want)
	}
}

// refused: a call with this error, which has changed nothing, and was no step.
func refused(t *testing.T, what string, f *simfs.FS, want api.Errno, call func() api.Errno) {
	t.Helper()
	n, was := f.Steps(), content(t, f)
	is(t, what, call(), want)
	if f.Steps() != n || content(t, f) != was {
		t.Errorf("%s: did something", what)
	}
}

// P4.1: names of ids, and back.
func TestNames(t *testing.T) {
	for id, want := range map[int]string{
		1: "seg-1", 2: "seg-2", 9: "seg-9", 10: "seg-10", 12: "seg-12", 100: "seg-100", 65536: "seg-65536",
		1234567890: "seg-1234567890", 1<<31 - 2: "seg-2147483646", 1<<31 - 1: "seg-2147483647",
	} {
		if name, e := seglog.Name(id); name != want || e != api.OK {
			t.Errorf("Name(%d): %q, %d", id, name, e)
		}
		if got, ok := seglog.ID(want); got != id || !ok {
			t.Errorf("ID(%q): %d, %v", want, got, ok)
		}
	}
	for id := 1; id < 3000; id++ {
		name, _ := seglog.Name(id)
		if got, ok := seglog.ID(name); name != fmt.Sprint("seg-", id) || got != id || !ok {
			t.Errorf("Name(%d): %q, of which ID: %d, %v", id, name, got, ok)
		}
	}
	for _, id := range outside {
		if name, e := seglog.Name(id); name != "" || e != api.ErrRange {
			t.Errorf("Name(%d): %q, %d", id, name, e)
		}
	}
}

// P4.1: what is no segment's name.
func TestNoNames(t *testing.T) {
	for _, name := range []string{
		"", "1", "seg", "seg-", "-", "-1", "s", "seg1", "seg--1", "seg-+1", "seg- 1", "seg-1 ", " seg-1", "seg -1", "seg-1\n", "seg-1\x00",
		"seg-0", "seg-00", "seg-01", "seg-012", "seg-0000000001", "seg--0", "seg-+0", "seg-0x1", "seg-0b1", "seg-0o1", "seg-1_0", "seg-1.", "seg-1.0", "seg-1e1", "seg-1,000",
		"Seg-1", "SEG-1", "seg_1", "seg–1", "seg.1", "segment-1", "xseg-1", "seg-seg-1", "seg-1-", "seg-1-1", "seg-1seg-1", "seg-a", "seg-1a", "seg-a1", "seg-ff",
		"seg-²", "seg-١", "seg-１", "seg-\xff", "\xffseg-1", "manifest", "seg-2147483648", "seg-2147483650", "seg-4294967297", "seg-9223372036854775807",
		"seg-9223372036854775808", "seg-18446744073709551617", "seg--9223372036854775808", "seg--18446744073709551615",
		"seg-10000000000000000000000000000000000000001", "seg-" + strings.Repeat("1", 100000), "seg-" + strings.Repeat("0", 1000) + "1",
		strings.Repeat("seg-1", 1000),
	} {
		if id, ok := seglog.ID(name); id != 0 || ok {
			t.Errorf("ID(%.40q): %d, %v", name, id, ok)
		}
	}
}

// P4.1: each byte of a name counts: with another one it is another segment's, or none's.
func TestChangedNames(t *testing.T) {
	for _, name := range []string{"seg-1", "seg-10", "seg-2147483647"} {
		for at := range len(name) + 1 {
			for x := range 256 {
				texts := []string{name[:at] + string([]byte{byte(x)}) + name[at:]}
				if at < len(name) {
					texts = append(texts, name[:at]+string([]byte{byte(x)})+name[at+1:], name[:at]+name[at+1:])
				}
				for _, s := range texts {
					id, ok := seglog.ID(s)
					if its, e := seglog.Name(id); ok != (e == api.OK && its == s) || !ok && id != 0 {
						t.Errorf("ID(%q): %d, %v", s, id, ok)
					}
					if digits := strings.TrimPrefix(s, "seg-"); ok != (digits != s && isID(digits)) {
						t.Errorf("ID(%q): %v", s, ok)
					}
				}
			}
		}
	}
}

// isID: whether it is in decimal, without a zero ahead, from 1 to 2^31 - 1.
func isID(digits string) bool {
	if digits == "" || digits[0] == '0' || len(digits) > 10 || strings.Trim(digits, "0123456789") != "" {
		return false
	}
	return len(digits) < 10 || digits <= "2147483647"
}

// P4.1: an id that is outside is refused ahead of all else, without a step.
func TestOutside(t *testing.T) {
	f := fresh(t, 100)
	is(t, "Create", seglog.Create(f, 1), api.OK)
	long := make([]byte, api.MaxPayload+1)
	for _, dead := range []bool{false, true} {
		if dead {
			is(t, "Arm", f.Arm(0), api.OK)
		}
		for _, id := range outside {
			refused(t, fmt.Sprint("Create ", id), f, api.ErrRange, func() api.Errno { return seglog.Create(f, id) })
			for _, kind := range []int{0, 1, 10} {
				refused(t, fmt.Sprint("Append ", id), f, api.ErrRange, func() api.Errno { return seglog.Append(f, id, kind) })
				refused(t, fmt.Sprint("Append ", id), f, api.ErrRange, func() api.Errno { return seglog.Append(f, id, kind, long) })
			}
			refusesRead(t, "outside", f, api.ErrRange, id)
			refusesRead(t, "outside, ahead", f, api.ErrRange, id, 1)
			refusesRead(t, "outside, behind", f, api.ErrRange, 1, 1, id)
			refusesRead(t, "outside, behind one that isn't there", f, api.ErrRange, 2, id)
			refusesRead(t, "outside, ahead of one that isn't there", f, api.ErrRange, id, 2)
		}
	}
}

// P4.1: the first and the last id.
func TestFirstAndLast(t *testing.T) {
	f := fresh(t, 1000)
	for _, id := range []int{1, 1<<31 - 1} {
		is(t, "Create", seglog.Create(f, id), api.OK)
		is(t, "Append", seglog.Append(f, id, 3, []byte("x")), api.OK)
		reads(t, "one", f, fmt.Sprintf("%d:3x", id), true, id)
	}
	if l := f.List(); !slices.Equal(l, []string{"seg-1", "seg-2147483647"}) {
		t.Errorf("files: %q", l)
	}
	reads(t, "both", f, "2147483647:3x 1:3x", true, 1<<31-1, 1)
}

// P4.1: a segment that is created is an empty file, whose name is sure; two steps.
func TestCreate(t *testing.T) {
	f := fresh(t, 1)
	is(t, "Create", seglog.Create(f, 7), api.OK)
	steps(t, "Create", f, 2)
	if got := content(t, f.Crash(0, nil)); got != "seg-7=" {
		t.Errorf("behind a crash: %q", got)
	}
	reads(t, "empty", f, "", true, 7)
	refused(t, "Create again", f, api.ErrExist, func() api.Errno { return seglog.Create(f, 7) })
	is(t, "Create", seglog.Create(f, 6), api.OK)
	steps(t, "Create", f, 4)
	reads(t, "two", f, "", true, 7, 6)
}

// P4.1: Create's errors are the file system's, the first one; what was done ahead of it is done.
func TestCreateErrors(t *testing.T) {
	for k, want := range map[int]api.Errno{1: api.ErrIO, 2: api.ErrSpace, 3: api.ErrIO, 9: api.ErrIO, -1: api.ErrIO} {
		f := fresh(t, 100)
		f.Plan([]int{k})
		is(t, fmt.Sprint("Create, planned ", k), seglog.Create(f, 1), want)
		steps(t, "the Create failed", f, 1)
		if got := content(t, f); got != "" {
			t.Errorf("planned %d: %q", k, got)
		}
		f.Plan([]int{0, k})
		is(t, fmt.Sprint("Create, planned 0, ", k), seglog.Create(f, 1), want)
		steps(t, "the SyncDir failed", f, 3)
		if got, sure := content(t, f), content(t, f.Crash(0, nil)); got != "seg-1=" || sure != "" {
			t.Errorf("planned 0, %d: %q, behind a crash %q", k, got, sure)
		}
		refused(t, "Create again", f, api.ErrExist, func() api.Errno { return seglog.Create(f, 1) })
	}
	f := fresh(t, 100)
	is(t, "Arm", f.Arm(1), api.OK)
	is(t, "Create, the power goes", seglog.Create(f, 1), api.ErrDead)
	steps(t, "the power goes", f, 1)
	refused(t, "Create, dead", f, api.ErrDead, func() api.Errno { return seglog.Create(f, 2) })
	refused(t, "Create, there and dead", f, api.ErrExist, func() api.Errno { return seglog.Create(f, 1) })
}

// P4.1: 64 files are the most, whatever they are.
func TestCreateFull(t *testing.T) {
	f := fresh(t, 100)
	put(t, f, "other", nil)
	for id := 1; id < api.MaxFiles; id++ {
		is(t, fmt.Sprint("Create ", id), seglog.Create(f, id), api.OK)
	}
	refused(t, "Create, full", f, api.ErrFull, func() api.Errno { return seglog.Create(f, 64) })
	refused(t, "Create, there and full", f, api.ErrExist, func() api.Errno { return seglog.Create(f, 63) })
	is(t, "Arm", f.Arm(0), api.OK)
	refused(t, "Create, full and dead", f, api.ErrFull, func() api.Errno { return seglog.Create(f, 64) })
}

// P4.1: a frame's bytes are behind the others, and sure; two steps; kinds and parts as they are.
func TestAppend(t *testing.T) {
	f := fresh(t, 1000)
	is(t, "Create", seglog.Create(f, 12), api.OK)
	want, n := "", 2
	for i, parts := range [][]string{nil, {""}, {"", "", ""}, {"a"}, {"a", "b"}, {"", "ab", "", "c"}, {"x", "y", "z", "u", "v"}, {"abc"}, {"\x00\xff"}} {
		var l [][]byte
		for _, s := range parts {
			l = append(l, []byte(s))
		}
		is(t, fmt.Sprint("Append ", parts), seglog.Append(f, 12, i+1, l...), api.OK)
		n += 2
		steps(t, fmt.Sprint("Append ", parts), f, n)
		want = strings.TrimSpace(fmt.Sprintf("%s 12:%d%s", want, i+1, strings.Join(parts, "")))
		reads(t, fmt.Sprint("Append ", parts), f, want, true, 12)
		reads(t, "behind a crash", f.Crash(0, nil), want, true, 12)
	}
	is(t, "Append, nil", seglog.Append(f, 12, 1, nil, nil, []byte("q")), api.OK)
	reads(t, "nil parts", f, want+" 12:1q", true, 12)
	if got, _ := f.Read("seg-12"); !bytes.HasSuffix(got, row(t, "7xyzuv", "8abc", "9\x00\xff", "1q")) {
		t.Errorf("bytes: %x", got)
	}
}

// P4.1: Append is to one segment alone, and to a file that something else has put there, too.
func TestAppendToOne(t *testing.T) {
	f := fresh(t, 1000)
	put(t, f, "seg-3", row(t, "1other"))
	put(t, f, "seg-30", nil)
	put(t, f, "xseg-3", []byte("?"))
	is(t, "Append", seglog.Append(f, 3, 2, []byte("mine")), api.OK)
	reads(t, "3", f, "3:1other 3:2mine", true, 3)
	reads(t, "30", f, "", true, 30)
	if got := content(t, f); got != fmt.Sprintf("seg-3=%x seg-30= xseg-3=3f", row(t, "1other", "2mine")) {
		t.Errorf("files: %s", got)
	}
}

// P4.1: payloads of none, one, 8192 bytes and one more, in one part and in many.
func TestPayloadSizes(t *testing.T) {
	long := bytes.Repeat([]byte("0123456789abcde"), 1000)[:api.MaxPayload+1]
	for _, n := range []int{0, 1, 2, 255, 256, api.MaxPayload - 1, api.MaxPayload} {
		for _, size := range []int{1, 3, 100, api.MaxPayload + 1} {
			f := fresh(t, 1<<20)
			is(t, "Create", seglog.Create(f, 1), api.OK)
			parts := slices.Collect(slices.Chunk(long[:n], size))
			is(t, fmt.Sprintf("Append %d by %d", n, size), seglog.Append(f, 1, 5, parts...), api.OK)
			steps(t, "Append", f, 4)
			reads(t, fmt.Sprint("Append ", n), f, "1:5"+string(long[:n]), true, 1)
			if f.Used() != n+9 {
				t.Errorf("Append of %d bytes: %d in the file", n, f.Used())
			}
		}
	}
	f := fresh(t, 1<<20)
	is(t, "Create", seglog.Create(f, 1), api.OK)
	for _, size := range []int{1, 3, api.MaxPayload, api.MaxPayload + 1} {
		parts := slices.Collect(slices.Chunk(long, size))
		refused(t, fmt.Sprintf("Append 8193 by %d", size), f, api.ErrLong, func() api.Errno { return seglog.Append(f, 1, 5, parts...) })
	}
	refused(t, "Append, a part too many", f, api.ErrLong, func() api.Errno { return seglog.Append(f, 1, 5, long[1:], nil, long[:1]) })
	is(t, "Append, none too many", seglog.Append(f, 1, 5, long[1:], nil), api.OK)
}

// P4.1: kinds outside, and which error is answered where several would fit.
func TestAppendErrors(t *testing.T) {
	f := fresh(t, 1<<20)
	is(t, "Create", seglog.Create(f, 1), api.OK)
	long := make([]byte, api.MaxPayload+1)
	for _, dead := range []bool{false, true} {
		if dead {
			is(t, "Arm", f.Arm(0), api.OK)
		}
		for _, kind := range []int{0, -1, 10, 11, 256, 257, 1 << 32, 1<<32 + 1, math.MinInt, math.MaxInt} {
			for _, id := range []int{1, 2} {
				refused(t, fmt.Sprint("kind ", kind), f, api.ErrRange, func() api.Errno { return seglog.Append(f, id, kind) })
				refused(t, fmt.Sprint("long, kind ", kind), f, api.ErrRange, func() api.Errno { return seglog.Append(f, id, kind, long) })
			}
		}
		for _, kind := range []int{1, 9} {
			refused(t, "long", f, api.ErrLong, func() api.Errno { return seglog.Append(f, 1, kind, long) })
			refused(t, "long, not there", f, api.ErrLong, func() api.Errno { return seglog.Append(f, 2, kind, long) })
			refused(t, "not there", f, api.ErrNone, func() api.Errno { return seglog.Append(f, 2, kind) })
		}
	}
	refused(t, "dead", f, api.ErrDead, func() api.Errno { return seglog.Append(f, 1, 1) })
	reads(t, "dead", f, "", true, 1)
}

// P4.1: a file may have 65536 bytes: a frame that would be the first to be beyond is too long, though it is none too long.
func TestFileIsFull(t *testing.T) {
	f := fresh(t, 1<<20)
	is(t, "Create", seglog.Create(f, 1), api.OK)
	for range 7 {
		is(t, "Append", seglog.Append(f, 1, 1, make([]byte, api.MaxPayload)), api.OK)
	}
	left := api.MaxFile - f.Used() - 9
	refused(t, "one too many", f, api.ErrLong, func() api.Errno { return seglog.Append(f, 1, 1, make([]byte, left+1)) })
	is(t, "just as many", seglog.Append(f, 1, 1, make([]byte, left)), api.OK)
	refused(t, "none", f, api.ErrLong, func() api.Errno { return seglog.Append(f, 1, 1) })
	if l, whole, e := seglog.Read(f, 1); len(l) != 8 || !whole || e != api.OK {
		t.Errorf("Read: %d, %v, %d", len(l), whole, e)
	}
	is(t, "Arm", f.Arm(0), api.OK)
	refused(t, "full and dead", f, api.ErrLong, func() api.Errno { return seglog.Append(f, 1, 1) })
}

// P4.1: without room nothing is put, and nothing synced.
func TestNoRoom(t *testing.T) {
	f := fresh(t, 30)
	is(t, "Create", seglog.Create(f, 1), api.OK)
	is(t, "Append", seglog.Append(f, 1, 1, []byte("ab")), api.OK)
	is(t, "Append, too much", seglog.Append(f, 1, 2, make([]byte, 11)), api.ErrSpace)
	steps(t, "the Append failed", f, 5)
	reads(t, "nothing was put", f, "1:1ab", true, 1)
	is(t, "Append, all", seglog.Append(f, 1, 2, []byte("0123456789")), api.OK)
	reads(t, "all", f, "1:1ab 1:20123456789", true, 1)
	is(t, "Append, none", seglog.Append(f, 1, 3), api.ErrSpace)
	steps(t, "the Append failed", f, 8)
}

// P4.1: the file system's failures at an Append, or at its Sync: the first one is answered, and nothing is done behind it.
func TestAppendFails(t *testing.T) {
	one := row(t, "4xyz")
	for k := -2; k < len(one)+8; k++ {
		if k == 0 {
			continue
		}
		want, n := api.ErrIO, min(max(k-3, 0), len(one))
		if k == 2 {
			want = api.ErrSpace
		}
		f := fresh(t, 100)
		is(t, "Create", seglog.Create(f, 1), api.OK)
		f.Plan([]int{k})
		is(t, fmt.Sprint("Append, planned ", k), seglog.Append(f, 1, 4, []byte("x"), []byte("yz")), want)
		steps(t, "the Append failed", f, 3)
		if b, _ := f.Read("seg-1"); !bytes.Equal(b, one[:n]) {
			t.Errorf("planned %d: %x", k, b)
		}
		if got := content(t, f.Crash(0, nil)); got != "seg-1=" {
			t.Errorf("planned %d: %s is sure", k, got)
		}
		all := map[bool]string{true: "1:4xyz"}[n == len(one)]
		reads(t, fmt.Sprint("planned ", k), f, all, n == 0 || n == len(one), 1)
		f.Plan([]int{0, k})
		g := fresh(t, 100)
		is(t, "Create", seglog.Create(g, 1), api.OK)
		g.Plan([]int{0, k})
		is(t, fmt.Sprint("Append, planned 0, ", k), seglog.Append(g, 1, 4, []byte("xyz")), want)
		steps(t, "the Sync failed", g, 4)
		reads(t, "the Sync failed", g, "1:4xyz", true, 1)
		reads(t, "the Sync failed, crashed", g.Crash(0, nil), "", true, 1)
	}
}

// P4.1: Read of none, of one, of many, of the same twice, in any order.
func TestRead(t *testing.T) {
	f := fresh(t, 1000)
	reads(t, "none", f, "", true)
	reads(t, "no ids", f, "", true, []int{}...)
	put(t, f, "seg-5", row(t, "1a", "2b"))
	put(t, f, "seg-1", row(t, "3c"))
	put(t, f, "seg-9", nil)
	reads(t, "none", f, "", true)
	reads(t, "one", f, "5:1a 5:2b", true, 5)
	reads(t, "another", f, "1:3c", true, 1)
	reads(t, "an empty one", f, "", true, 9)
	reads(t, "falling", f, "5:1a 5:2b 1:3c", true, 5, 1)
	reads(t, "rising", f, "1:3c 5:1a 5:2b", true, 1, 5, 9)
	reads(t, "twice", f, "5:1a 5:2b 5:1a 5:2b", true, 5, 5)
	reads(t, "many", f, "1:3c 5:1a 5:2b 1:3c 1:3c 5:1a 5:2b", true, 9, 1, 9, 5, 1, 1, 5)
	is(t, "Arm", f.Arm(0), api.OK)
	reads(t, "dead", f, "1:3c", true, 1)
	reads(t, "dead, none", f, "", true)
}

// P4.1: a segment that isn't there, wherever it stands, is the error, with nothing beside it.
func TestReadOfNone(t *testing.T) {
	f := fresh(t, 1000)
	put(t, f, "seg-5", row(t, "1a"))
	put(t, f, "seg-03", row(t, "1a"))
	for _, ids := range [][]int{{3}, {3, 5}, {5, 3}, {5, 5, 3, 5}, {1<<31 - 1}, {5, 1}} {
		refusesRead(t, "not there", f, api.ErrNone, ids...)
	}
	is(t, "Remove", f.Remove("seg-5"), api.OK)
	refusesRead(t, "not there any more", f, api.ErrNone, 5)
}

// P4.1: something torn behind a front: it ends that segment's frames; told only of the last one.
func TestReadTorn(t *testing.T) {
	two := row(t, "1a", "2b")
	for cut := range len(two) + 1 {
		f := fresh(t, 1000)
		put(t, f, "seg-1", two[:cut])
		put(t, f, "seg-2", row(t, "3c"))
		put(t, f, "seg-3", nil)
		first := []string{"", "1:1a", "1:1a 1:2b"}[cut/10]
		whole := cut%10 == 0
		sep := map[bool]string{true: " "}[first != ""]
		reads(t, fmt.Sprint("cut at ", cut), f, first, whole, 1)
		reads(t, "the last one", f, "2:3c"+sep+first, whole, 2, 1)
		reads(t, "not the last one", f, first+sep+"2:3c", true, 1, 2)
		reads(t, "not the last one, which is empty", f, first, true, 1, 3)
		reads(t, "twice", f, first+sep+first, whole, 1, 1)
		reads(t, "twice, apart", f, first+sep+"2:3c"+sep+first, whole, 1, 2, 1)
	}
	for at := range two {
		for _, turn := range []byte{1, 0x80, 0xff} {
			f := fresh(t, 1000)
			b := bytes.Clone(two)
			b[at] ^= turn
			put(t, f, "seg-1", b)
			first := []string{"", "1:1a"}[at/10]
			reads(t, fmt.Sprint("another byte at ", at), f, first, false, 1)
		}
	}
}

// P4.1: what is behind something torn isn't read, though it is whole.
func TestBehindTorn(t *testing.T) {
	f := fresh(t, 1000)
	put(t, f, "seg-1", append(append(row(t, "1a"), 1), row(t, "2b")...))
	reads(t, "torn between", f, "1:1a", false, 1)
	is(t, "Append", seglog.Append(f, 1, 3, []byte("c")), api.OK)
	reads(t, "torn between", f, "1:1a", false, 1)
}

// P4.3: parts and ids stay, spare room too, and what becomes of them later counts for nothing.
func TestHandedIn(t *testing.T) {
	f := fresh(t, 1000)
	is(t, "Create", seglog.Create(f, 1), api.OK)
	whole := []byte("0123456789abcdef")
	parts := [][]byte{whole[2:4], whole[6:6], whole[8:10:10], []byte("left"), []byte("alone")}
	is(t, "Append", seglog.Append(f, 1, 1, parts[:3]...), api.OK)
	is(t, "Append", seglog.Append(f, 1, 2, parts[:1]...), api.OK)
	if string(whole) != "0123456789abcdef" || string(bytes.Join(parts, []byte("|"))) != "23||89|left|alone" {
		t.Errorf("what was handed in changed: %q, %q", whole, parts)
	}
	clear(whole)
	clear(parts)
	reads(t, "what was put", f, "1:12389 1:223", true, 1)
	ids := []int{1, 1, 7, 0, 9}
	seglog.Read(f, ids[:2]...)
	seglog.Read(f, ids[:3]...)
	seglog.Read(f, ids[:4]...)
	if !slices.Equal(ids, []int{1, 1, 7, 0, 9}) {
		t.Errorf("ids: %v", ids)
	}
}

// P4.3: what is read is one's own, spare room too: neither the file nor another answer, nor another entry of the same, has it.
func TestAnswersAreNew(t *testing.T) {
	f := fresh(t, 1000)
	put(t, f, "seg-1", row(t, "1abc", "2defgh", "3", "4i", "5jklmnopq"))
	want := "1:1abc 1:2defgh 1:3 1:4i 1:5jklmnopq"
	l, _, _ := seglog.Read(f, 1, 1)
	other, _, _ := seglog.Read(f, 1)
	for i, x := range l {
		rest := slices.Clone(l)
		was := told(append(rest[:i], rest[i+1:]...))
		clear(x.Payload[:cap(x.Payload)])
		rest = slices.Clone(l)
		if now := told(append(rest[:i], rest[i+1:]...)); now != was {
			t.Errorf("entry %d changed others: %q, %q", i, was, now)
		}
	}
	clear(l[:cap(l)])
	if told(other) != want {
		t.Errorf("another answer changed: %q", told(other))
	}
	reads(t, "the file", f, want, true, 1)
	is(t, "Append", seglog.Append(f, 1, 6, []byte("r")), api.OK)
	if told(other) != want {
		t.Errorf("an answer changed with an Append: %q", told(other))
	}
	_ = append(other[:1], seglog.Entry{Seg: 9})
	reads(t, "the file, appended to", f, want+" 1:6r", true, 1)
}

// P7 (R8): each call depends on its file system alone, also where many are at work.
func TestManyAtWork(t *testing.T) {
	var wait sync.WaitGroup
	for n := range 8 {
		f := fresh(t, 1<<16)
		wait.Go(func() {
			var want []string
			is(t, "Create", seglog.Create(f, n+1), api.OK)
			for i := range 100 {
				text := fmt.Sprint(n, "-", i)
				is(t, "Append", seglog.Append(f, n+1, 1+i%9, []byte(text)), api.OK)
				want = append(want, fmt.Sprintf("%d:%d%s", n+1, 1+i%9, text))
			}
			reads(t, "its own", f, strings.Join(want, " "), true, n+1)
			refusesRead(t, "another's", f, api.ErrNone, n+2)
		})
	}
	wait.Wait()
}
