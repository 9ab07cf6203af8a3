package manifest_test

import (
	"fmt"
	"slices"
	"strings"
	"testing"

	"rubric/api"
	"rubric/manifest"
	"rubric/simfs"
)

// filled: a file system with a file of each name, each with its name's bytes, all of it sure.
func filled(t *testing.T, names ...string) *simfs.FS {
	t.Helper()
	f := fresh(t, 10000)
	for _, s := range names {
		put(t, f, s, []byte(s))
	}
	return f
}

// cleans: whether Clean answers that, and only left stay, as they were, and sure; in a step each, and one more.
func cleans(t *testing.T, m manifest.Manifest, names, left []string) {
	t.Helper()
	f := filled(t, names...)
	n := f.Steps()
	what := fmt.Sprintf("Clean(%.100s) of %.200q", text(m), names)
	removed, e := manifest.Clean(f, m)
	want := len(names) - len(left)
	if removed != want || e != api.OK {
		t.Errorf("%s: %d, %d, want %d", what, removed, e, want)
	}
	if want > 0 {
		n += want + 1
	}
	steps(t, what, f, n)
	holds(t, what, f, content(t, filled(t, left...)))
	n = f.Steps()
	if removed, e := manifest.Clean(f, m); removed != 0 || e != api.OK || f.Steps() != n {
		t.Errorf("%s: again: %d, %d", what, removed, e)
	}
}

// P5.1: no orphan, one, many; of segments and other files.
func TestClean(t *testing.T) {
	m := of(5, 1, 3, 1<<31-1)
	own := []string{"manifest", "seg-1", "seg-3", "seg-2147483647"}
	cleans(t, m, nil, nil)
	cleans(t, m, own, own)
	cleans(t, m, own[:1], own[:1])
	cleans(t, m, own[1:], own[1:])
	cleans(t, m, own[2:3], own[2:3])
	for _, s := range []string{
		"manifest.tmp", "manifest.", "manifest-", "manifest1", "manifes", "amanifest", "a", "0", "9", ".", "-", "..", "zzz",
		"seg", "seg-", "seg-0", "seg-2", "seg-4", "seg-10", "seg-11", "seg-13", "seg-31", "seg-01", "seg-03", "seg-1.", "seg-1-", "seg-.1", "seg--1", "seg--3", "seg-2147483646", "seg-2147483648", "seg-1.tmp", "xseg-1", "seg-4294967297",
	} {
		cleans(t, m, []string{s}, nil)
		cleans(t, m, append([]string{s}, own...), own)
		cleans(t, m, append(slices.Clone(own), s), own)
	}
	others := []string{"manifest.tmp", "a", "seg-2", "seg-03", "zzz", "seg-10", "seg-4", "-"}
	cleans(t, m, others, nil)
	cleans(t, m, slices.Concat(others, own), own)
	cleans(t, of(1, 7), slices.Concat(others, own), []string{"manifest"})
	cleans(t, of(1, 4), slices.Concat(others, own), []string{"manifest", "seg-4"})
}

// P5.1: a directory as full as can be, and all 32 segments.
func TestCleanOfMany(t *testing.T) {
	var own, all []string
	for i := range api.MaxFiles {
		s := fmt.Sprint("seg-", i+1)
		if i < 32 {
			own = append(own, s)
		}
		all = append(all, s)
	}
	m := of(1, rising(1, 32)...)
	cleans(t, m, own, own)
	cleans(t, m, all, own)
	cleans(t, of(1, 64), all, []string{"seg-64"})
	cleans(t, of(1, 65), all, nil)
}

// P5.1: orphans whose names, or whose going, aren't sure.
func TestCleanOfUnsure(t *testing.T) {
	f := filled(t, "manifest", "seg-1", "x")
	is(t, "Create", f.Create("y"), api.OK)
	is(t, "Rename", f.Rename("x", "seg-2"), api.OK)
	n := f.Steps()
	if removed, e := manifest.Clean(f, of(1, 1)); removed != 2 || e != api.OK {
		t.Errorf("Clean: %d, %d", removed, e)
	}
	steps(t, "Clean", f, n+3)
	holds(t, "Clean", f, content(t, filled(t, "manifest", "seg-1")))
	is(t, "Create", f.Create("y"), api.OK)
	is(t, "Remove", f.Remove("y"), api.OK)
	n = f.Steps()
	if removed, e := manifest.Clean(f, of(1, 1)); removed != 0 || e != api.OK || f.Steps() != n {
		t.Errorf("Clean of what went already: %d, %d", removed, e)
	}
}

// P5.1: each step fails, or the power goes ahead of it: so many were removed ahead of it, the rising first ones; all others stay.
func TestCleanFails(t *testing.T) {
	m := of(5, 1, 3)
	own := []string{"manifest", "seg-1", "seg-3"}
	orphans := []string{"a", "manifest.tmp", "seg-03", "seg-10", "seg-2", "z"}
	for at := range len(orphans) + 1 {
		for _, k := range []int{-1, 1, 2, 3, 4, 99} {
			f := filled(t, slices.Concat(orphans, own)...)
			n := f.Steps()
			f.Plan(append(make([]int, at), k))
			want := map[bool]api.Errno{true: api.ErrSpace, false: api.ErrIO}[k == 2]
			what := fmt.Sprint("planned ", k, " behind ", at)
			removed, e := manifest.Clean(f, m)
			is(t, what, e, want)
			cleaned(t, what, f, removed, at, slices.Concat(orphans, own), slices.Concat(orphans[at:], own))
			steps(t, what, f, n+at+1)
			again, e := manifest.Clean(f, m)
			if e != api.OK || again != len(orphans)-at {
				t.Errorf("%s: again: %d, %d", what, again, e)
			}
			if at < len(orphans) {
				holds(t, what+", again", f, content(t, filled(t, own...)))
			}
		}
		f := filled(t, slices.Concat(orphans, own)...)
		n := f.Steps()
		is(t, "Arm", f.Arm(at), api.OK)
		what := fmt.Sprint("armed ", at)
		removed, e := manifest.Clean(f, m)
		is(t, what, e, api.ErrDead)
		cleaned(t, what, f, removed, at, slices.Concat(orphans, own), slices.Concat(orphans[at:], own))
		steps(t, what, f, n+at)
	}
}

// cleaned: whether so many were removed, and only left stay, as they were, but as long as the directory isn't synced those
// that went are kept by a crash.
func cleaned(t *testing.T, what string, f *simfs.FS, removed, want int, was, left []string) {
	t.Helper()
	if removed != want {
		t.Errorf("%s: %d removed, want %d", what, removed, want)
	}
	if got, want := content(t, f), content(t, filled(t, left...)); got != want {
		t.Errorf("%s: %s, want %s", what, got, want)
	}
	if got, want := content(t, f.Crash(0, nil)), content(t, filled(t, was...)); got != want {
		t.Errorf("%s: %s is sure, want %s", what, got, want)
	}
}

// P5.1: with nothing to remove Clean answers OK, dead or planned to fail; with something the power's going is told.
func TestCleanDead(t *testing.T) {
	f := filled(t, "manifest", "seg-1")
	f.Plan([]int{1})
	n := f.Steps()
	if removed, e := manifest.Clean(f, of(1, 1)); removed != 0 || e != api.OK {
		t.Errorf("Clean: %d, %d", removed, e)
	}
	is(t, "Arm", f.Arm(0), api.OK)
	if removed, e := manifest.Clean(f, of(1, 1)); removed != 0 || e != api.OK {
		t.Errorf("Clean, dead: %d, %d", removed, e)
	}
	if removed, e := manifest.Clean(f, of(1, 2)); removed != 0 || e != api.ErrDead {
		t.Errorf("Clean, dead, an orphan: %d, %d", removed, e)
	}
	steps(t, "Clean", f, n)
	f = filled(t, "a", "b", "manifest")
	is(t, "Arm", f.Arm(3), api.OK)
	if removed, e := manifest.Clean(f, of(1, 1)); removed != 2 || e != api.OK {
		t.Errorf("Clean, as many steps as it takes: %d, %d", removed, e)
	}
	holds(t, "Clean", f, strings.TrimSpace(file("manifest", []byte("manifest"))))
}
