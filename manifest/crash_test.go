package manifest_test

import (
	"fmt"
	"testing"

	"rubric/api"
	"rubric/manifest"
	"rubric/simfs"
)

// loaded: what is loaded, as a text; none, if there is none.
func loaded(t *testing.T, what string, f *simfs.FS) string {
	t.Helper()
	m, e := manifest.Load(f)
	if e == api.ErrNone {
		return "none"
	}
	is(t, what+": Load", e, api.OK)
	return text(m)
}

// crashes: what a crash may leave of it: any of at most six changes of the directory, any of at most 16 bytes of one of the
// first four files, or of all.
func crashes(f *simfs.FS, each func(what string, x *simfs.FS)) {
	for dirs := range 7 {
		for n := range 17 {
			for file := range 4 {
				tails := make([]int, 4)
				tails[file] = n
				each(fmt.Sprintf("Crash(%d, %v)", dirs, tails), f.Crash(dirs, tails))
			}
			tails := []int{n, n, n, n, n, n, n, n}
			each(fmt.Sprintf("Crash(%d, %v)", dirs, tails), f.Crash(dirs, tails))
		}
	}
}

// starts: file systems ahead of a Save: empty; with a manifest; with a manifest.tmp, sure or not, beside it or alone; behind
// a Save whose last step failed; behind ones that were cut off.
func starts(t *testing.T) map[string]func() *simfs.FS {
	with := func(l ...func(f *simfs.FS)) func() *simfs.FS {
		return func() *simfs.FS {
			f := fresh(t, 1000)
			for _, do := range l {
				do(f)
			}
			return f
		}
	}
	old := func(f *simfs.FS) { is(t, "Save", manifest.Save(f, of(1, 1)), api.OK) }
	junk := func(f *simfs.FS) { put(t, f, "manifest.tmp", []byte("junk")) }
	unsure := func(f *simfs.FS) {
		is(t, "Create", f.Create("manifest.tmp"), api.OK)
		is(t, "Append", f.Append("manifest.tmp", framed(9, "9\n9\n")), api.OK)
	}
	failed := func(plan ...int) func(f *simfs.FS) {
		return func(f *simfs.FS) {
			f.Plan(plan)
			is(t, "Save that fails", manifest.Save(f, of(1, 1)), api.ErrIO)
		}
	}
	return map[string]func() *simfs.FS{
		"empty": with(), "a manifest": with(old), "junk": with(junk), "a manifest and junk": with(old, junk), "unsure": with(unsure), "a manifest and what is unsure": with(old, unsure),
		"its Append failed": with(failed(0, 5)), "its Sync failed": with(failed(0, 0, 1)), "its Rename failed": with(old, failed(0, 0, 0, 1)), "its last step failed": with(failed(0, 0, 0, 0, 1)), "its last step failed, over another": with(old, failed(0, 0, 0, 0, 1)),
	}
}

// P5.2: the power goes ahead of each step of a Save, or the step fails in each way, and whatever isn't sure is kept: it is the
// one that there was, or the new one; behind OK the new one; and what is loaded then is sure.
func TestTheOneOrTheOther(t *testing.T) {
	next := of(2, 1, 2)
	size := len(framed(9, written(next)))
	seen := map[string]bool{}
	for name, start := range starts(t) {
		was := map[string]bool{}
		crashes(start(), func(what string, x *simfs.FS) { was[loaded(t, name+", "+what, x)] = true })
		was[loaded(t, name, start())] = true
		try := func(what string, f *simfs.FS) {
			e := manifest.Save(f, next)
			check := func(what string, x *simfs.FS) {
				got := loaded(t, what, x)
				if got != text(next) && (e == api.OK || !was[got]) {
					t.Errorf("%s: answered %d, loaded %s, want %s, or one of %v, if there was an error", what, e, got, text(next), was)
				}
				if again := loaded(t, what, x.Crash(0, nil)); again != got && x.Steps() == 0 {
					t.Errorf("%s: loaded %s, then %s", what, got, again)
				}
				seen[fmt.Sprint(e == api.OK, got)] = true
			}
			check(what, f)
			crashes(f, func(crash string, x *simfs.FS) { check(what+", "+crash, x) })
		}
		for left := range 8 {
			f := start()
			is(t, "Arm", f.Arm(left), api.OK)
			try(fmt.Sprint(name, ", armed ", left), f)
		}
		for at := range 6 {
			for _, k := range []int{1, 2, 3, 4, 3 + size/2, 2 + size, 3 + size, 99} {
				f := start()
				f.Plan(append(make([]int, at), k))
				try(fmt.Sprint(name, ", planned ", k, " behind ", at), f)
			}
		}
	}
	for _, s := range []string{"falsenone", "false" + text(of(1, 1)), "false" + text(next), "true" + text(next)} {
		if !seen[s] {
			t.Errorf("never seen: %s (%v)", s, seen)
		}
	}
}

// P5.2: Saves again behind what a crash left, cut off again: one goes well at last, and what is loaded always is one of both.
func TestSavesAgain(t *testing.T) {
	for left := range 7 {
		for dirs := range 5 {
			for _, n := range []int{0, 1, 9, 15, 16, 99} {
				f := fresh(t, 1000)
				is(t, "Save", manifest.Save(f, of(1, 1)), api.OK)
				sure := text(of(1, 1))
				for version := 2; version < 7; version++ {
					next := of(version, 1, version)
					is(t, "Arm", f.Arm(left), api.OK)
					e := manifest.Save(f, next)
					is(t, fmt.Sprint("Save, armed ", left), e, map[bool]api.Errno{true: api.OK, false: api.ErrDead}[left >= 5+left/6])
					what := fmt.Sprintf("armed %d, Crash(%d, %d), Version %d", left, dirs, n, version)
					f = f.Crash(dirs, []int{n, n, n, n})
					got := loaded(t, what, f)
					if got != text(next) && (e == api.OK || got != sure) {
						t.Errorf("%s: answered %d, loaded %s, want %s, or %s, if there was an error", what, e, got, text(next), sure)
					}
					sure = got
					again := f.Crash(0, nil)
					is(t, what+": Save again", manifest.Save(again, next), api.OK)
					loads(t, what+", again", again.Crash(0, nil), next)
				}
			}
		}
	}
}

// P5.2: a Save behind one that failed at its last step: whichever is sure, it is one of the three, and behind OK the last.
func TestSaveBehindFailed(t *testing.T) {
	f := fresh(t, 1000)
	is(t, "Save", manifest.Save(f, of(1, 1)), api.OK)
	f.Plan([]int{0, 0, 0, 0, 1})
	is(t, "Save, its last step fails", manifest.Save(f, of(2, 2)), api.ErrIO)
	loads(t, "it is there", f, of(2, 2))
	loads(t, "it isn't sure", f.Crash(0, nil), of(1, 1))
	loads(t, "it isn't sure", f.Crash(1, nil), of(1, 1))
	loads(t, "it is kept", f.Crash(2, nil), of(2, 2))
	is(t, "Save", manifest.Save(f, of(3, 3)), api.OK)
	loads(t, "the last one", f.Crash(0, nil), of(3, 3))
}

// P5.2: cleaning, wherever it fails and the power goes, leaves the manifest and its segments.
func TestCleanKeeps(t *testing.T) {
	m := of(4, 2, 5)
	for left := range 8 {
		for dirs := range 8 {
			f := filled(t, "a", "manifest.tmp", "seg-1", "seg-2", "seg-5", "seg-6")
			is(t, "Remove", f.Remove("manifest.tmp"), api.OK)
			is(t, "Save", manifest.Save(f, m), api.OK)
			is(t, "Create", f.Create("manifest.tmp"), api.OK)
			is(t, "Arm", f.Arm(left), api.OK)
			n, e := manifest.Clean(f, m)
			want := map[bool]api.Errno{true: api.OK, false: api.ErrDead}[left >= 5]
			if what := fmt.Sprint("armed ", left); n != min(left, 4) || e != want {
				t.Errorf("%s: %d, %d", what, n, e)
			}
			x := f.Crash(dirs, nil)
			loads(t, "Clean", x, m)
			for _, s := range []string{"seg-2", "seg-5"} {
				if b, e := x.Read(s); e != api.OK || string(b) != s {
					t.Errorf("armed %d, Crash(%d): %s: %q, %d", left, dirs, s, b, e)
				}
			}
		}
	}
}
