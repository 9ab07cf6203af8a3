package seglog_test

import (
	"fmt"
	"slices"
	"strings"
	"testing"

	"rubric/api"
	"rubric/seglog"
	"rubric/simfs"
)

// call: the Create of a segment, if without a frame; else an Append of it: its first byte is the kind.
type call struct {
	id    int
	frame string
}

// calls: two segments, written to in turn.
var calls = []call{{1, ""}, {1, "1a"}, {1, "2"}, {2, ""}, {2, "3bcd"}, {1, "4ef"}, {2, "5"}, {2, "6g"}}

// did: what was answered of calls: which segments were created, and, of each segment, the frames that were appended,
// with OK or (the last one) without.
type did struct {
	created map[int]bool
	sure    map[int][]string
	torn    map[int]string
}

// do: the calls, up to the first that isn't answered with OK.
func do(f *simfs.FS, calls []call) did {
	d := did{created: map[int]bool{}, sure: map[int][]string{}, torn: map[int]string{}}
	for _, c := range calls {
		if c.frame == "" {
			if seglog.Create(f, c.id) != api.OK {
				return d
			}
			d.created[c.id] = true
			continue
		}
		if seglog.Append(f, c.id, int(c.frame[0]-'0'), []byte(c.frame[1:])) != api.OK {
			d.torn[c.id] = c.frame
			return d
		}
		d.sure[c.id] = append(d.sure[c.id], c.frame)
	}
	return d
}

// fronted: frames as told of a segment.
func fronted(id int, frames []string) string {
	var l []string
	for _, s := range frames {
		l = append(l, fmt.Sprintf("%d:%s", id, s))
	}
	return strings.Join(l, " ")
}

// keeps: whether of each segment that was created with OK just the frames are read that were appended with OK, and the one
// without, whole, or not at all; and whether that one is read of any.
func (d did) keeps(t *testing.T, what string, f *simfs.FS) bool {
	t.Helper()
	more := false
	for id := range d.created {
		l, whole, e := seglog.Read(f, id)
		is(t, what, e, api.OK)
		got, sure, with := told(l), fronted(id, d.sure[id]), fronted(id, append(slices.Clone(d.sure[id]), d.torn[id]))
		switch {
		case d.torn[id] != "" && got == with:
			more = true
			if !whole {
				t.Errorf("%s: %q, but something behind it", what, got)
			}
		case got != sure:
			t.Errorf("%s: Read(%d): %.200q, want %.200q, or %.200q", what, id, got, sure, with)
		case !whole && d.torn[id] == "":
			t.Errorf("%s: Read(%d): something torn, but nothing was", what, id)
		}
	}
	return more
}

// crashes: all that a crash may leave of it, of two files of whose bytes at most 12 each aren't sure.
func crashes(f *simfs.FS, each func(what string, x *simfs.FS)) {
	for dirs := range 3 {
		for one := range 14 {
			for _, two := range []int{0, 1, 8, 9, 10, 12, 13} {
				each(fmt.Sprintf("Crash(%d, [%d %d])", dirs, one, two), f.Crash(dirs, []int{one, two}))
				each(fmt.Sprintf("Crash(%d, [%d %d])", dirs, two, one), f.Crash(dirs, []int{two, one}))
			}
		}
	}
}

// P4.2: the power goes behind each step, and any of the bytes that aren't sure are kept.
func TestPowerGoes(t *testing.T) {
	with, without := 0, 0
	for n := range 2*len(calls) + 1 {
		f := fresh(t, 1000)
		is(t, "Arm", f.Arm(n), api.OK)
		d := do(f, calls)
		steps(t, "armed", f, n)
		d.keeps(t, fmt.Sprint("armed ", n), f)
		crashes(f, func(what string, x *simfs.FS) {
			what = fmt.Sprint("armed ", n, ", ", what)
			if d.keeps(t, what, x) {
				with++
			} else {
				without++
			}
			was := content(t, x)
			if again := content(t, x.Crash(0, nil)); again != was {
				t.Errorf("%s: again: %s, %s", what, was, again)
			}
		})
	}
	if with == 0 || without == 0 {
		t.Errorf("a frame that isn't sure was read %d times, and %d times not", with, without)
	}
}

// P4.2: each step fails in each way, and any of the bytes that aren't sure are kept; also where more is appended then.
func TestStepsFail(t *testing.T) {
	for n := range 2 * len(calls) {
		for k := -1; k < 17; k++ {
			if k == 0 {
				continue
			}
			f := fresh(t, 1000)
			f.Plan(append(make([]int, n), k))
			d := do(f, calls)
			what := fmt.Sprint("planned ", k, " behind ", n)
			steps(t, what, f, n+1)
			d.keeps(t, what, f)
			crashes(f, func(crash string, x *simfs.FS) { d.keeps(t, what+", "+crash, x) })
		}
	}
}

// P4.2: with a frame that was put whole, but not synced, more is read behind it, and all of it is sure with the next one;
// behind one that was put in part nothing is.
func TestMoreBehind(t *testing.T) {
	size := len(row(t, "2xyz"))
	for k := 3; k < size+6; k++ {
		f := fresh(t, 1000)
		is(t, "Create", seglog.Create(f, 1), api.OK)
		is(t, "Append", seglog.Append(f, 1, 1, []byte("a")), api.OK)
		f.Plan([]int{k})
		is(t, "Append", seglog.Append(f, 1, 2, []byte("xyz")), api.ErrIO)
		is(t, "Append", seglog.Append(f, 1, 3, []byte("b")), api.OK)
		want, whole := "1:1a", false
		switch n := k - 3; {
		case n == 0:
			want, whole = "1:1a 1:3b", true
		case n >= size:
			want, whole = "1:1a 1:2xyz 1:3b", true
		}
		reads(t, fmt.Sprint("planned ", k), f, want, whole, 1)
		reads(t, fmt.Sprint("planned ", k, ", crashed"), f.Crash(0, nil), want, whole, 1)
	}
	f := fresh(t, 1000)
	is(t, "Create", seglog.Create(f, 1), api.OK)
	f.Plan([]int{0, 1})
	is(t, "Append, its Sync fails", seglog.Append(f, 1, 2, []byte("xyz")), api.ErrIO)
	reads(t, "not sure", f.Crash(0, []int{size - 1}), "", false, 1)
	is(t, "Append", seglog.Append(f, 1, 3, []byte("b")), api.OK)
	reads(t, "sure", f.Crash(0, nil), "1:2xyz 1:3b", true, 1)
}

// P4.2: what a crash left is appended to, and read behind the next one.
func TestOnBehindCrashes(t *testing.T) {
	f := fresh(t, 1000)
	is(t, "Create", seglog.Create(f, 1), api.OK)
	want := ""
	for i := range 9 {
		text := strings.Repeat("x", i)
		is(t, "Append", seglog.Append(f, 1, i+1, []byte(text)), api.OK)
		want = strings.TrimSpace(fmt.Sprintf("%s 1:%d%s", want, i+1, text))
		is(t, "Arm", f.Arm(1), api.OK)
		is(t, "Append, the power goes", seglog.Append(f, 1, 9, []byte("lost")), api.ErrDead)
		reads(t, "dead", f, want+" 1:9lost", true, 1)
		for n := range 14 {
			all := map[bool]string{true: " 1:9lost"}[n == 13]
			reads(t, fmt.Sprint("crashed, ", n, " kept"), f.Crash(0, []int{n}), want+all, n == 0 || n == 13, 1)
		}
		f = f.Crash(0, nil)
		reads(t, "crashed", f, want, true, 1)
	}
}

// P4.2: a segment that was created without OK may be there or not; if it is, it is empty.
func TestCreatedWithout(t *testing.T) {
	f := fresh(t, 1000)
	is(t, "Arm", f.Arm(1), api.OK)
	is(t, "Create, the power goes", seglog.Create(f, 1), api.ErrDead)
	refusesRead(t, "not kept", f.Crash(0, []int{9}), api.ErrNone, 1)
	reads(t, "kept", f.Crash(1, []int{9}), "", true, 1)
}
