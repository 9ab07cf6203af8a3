package manifest_test

import (
	"bytes"
	"fmt"
	"strings"
	"testing"

	"rubric/api"
	"rubric/manifest"
	"rubric/simfs"
)

// fresh: a file system of so much room.
func fresh(t *testing.T, room int) *simfs.FS {
	t.Helper()
	f, e := simfs.New(room)
	if e != api.OK {
		t.Fatalf("New(%d): %d", room, e)
	}
	return f
}

// steps: whether there were so many.
func steps(t *testing.T, what string, f *simfs.FS, want int) {
	t.Helper()
	if f.Steps() != want {
		t.Errorf("%s: %d steps, want %d", what, f.Steps(), want)
	}
}

// put: a file of these bytes, name and all sure.
func put(t *testing.T, f *simfs.FS, name string, b []byte) {
	t.Helper()
	is(t, "Create "+name, f.Create(name), api.OK)
	is(t, "Append "+name, f.Append(name, b), api.OK)
	is(t, "Sync "+name, f.Sync(name), api.OK)
	is(t, "SyncDir", f.SyncDir(), api.OK)
}

// content: all names, rising, and what is in each.
func content(t *testing.T, f *simfs.FS) string {
	t.Helper()
	var l []string
	for _, name := range f.List() {
		b, e := f.Read(name)
		is(t, "Read "+name, e, api.OK)
		l = append(l, fmt.Sprintf("%s=%x", name, b))
	}
	return strings.Join(l, " ")
}

// holds: whether that is all there is; nothing else than that is there behind a crash that keeps nothing unsure either.
func holds(t *testing.T, what string, f *simfs.FS, want string) {
	t.Helper()
	if got := content(t, f); got != want {
		t.Errorf("%s: %.200s, want %.200s", what, got, want)
	}
	if got := content(t, f.Crash(0, nil)); got != want {
		t.Errorf("%s: %.200s is sure, want %.200s", what, got, want)
	}
}

// loads: whether that is the manifest, and asking does nothing.
func loads(t *testing.T, what string, f *simfs.FS, want manifest.Manifest) {
	t.Helper()
	n, was := f.Steps(), content(t, f)
	if m, e := manifest.Load(f); e != api.OK || text(m) != text(want) {
		t.Errorf("%s: Load: %.200s, %d, want %.200s", what, text(m), e, text(want))
	}
	if f.Steps() != n || content(t, f) != was {
		t.Errorf("%s: Load did something", what)
	}
}

// refusesLoad: whether Load answers that error, and nothing beside it.
func refusesLoad(t *testing.T, what string, f *simfs.FS, want api.Errno) {
	t.Helper()
	n, was := f.Steps(), content(t, f)
	if m, e := manifest.Load(f); e != want || m.Version != 0 || len(m.Segs) != 0 {
		t.Errorf("%s: Load: %.200s, %d, want %d alone", what, text(m), e, want)
	}
	if f.Steps() != n || content(t, f) != was {
		t.Errorf("%s: Load did something", what)
	}
}

// file: how content tells a file.
func file(name string, b []byte) string { return fmt.Sprintf("%s=%x", name, b) }

// saved: how content tells a manifest's file.
func saved(m manifest.Manifest) string { return file("manifest", framed(9, written(m))) }

// P5.1: it is saved in five steps, or in six, if there is a manifest.tmp; all is sure then.
func TestSave(t *testing.T) {
	for _, m := range good() {
		f := fresh(t, 1000)
		is(t, "Save", manifest.Save(f, m), api.OK)
		steps(t, "Save", f, 5)
		holds(t, "Save", f, saved(m))
		loads(t, "Save", f, m)
	}
	f := fresh(t, 10000)
	n := 0
	for _, m := range good() {
		is(t, "Save", manifest.Save(f, m), api.OK)
		n += 5
		steps(t, "Save over another", f, n)
		holds(t, "Save over another", f, saved(m))
		put(t, f, "manifest.tmp", []byte("junk"))
		is(t, "Save", manifest.Save(f, m), api.OK)
		n += 4 + 6
		steps(t, "Save, a manifest.tmp ahead", f, n)
		holds(t, "Save, a manifest.tmp ahead", f, saved(m))
	}
}

// P5.1: over what is no manifest, and over one of the same or of a later Version.
func TestSaveOverAny(t *testing.T) {
	f := fresh(t, 1000)
	put(t, f, "manifest", []byte("junk"))
	is(t, "Save", manifest.Save(f, of(9, 4)), api.OK)
	holds(t, "over junk", f, saved(of(9, 4)))
	is(t, "Save", manifest.Save(f, of(9, 4)), api.OK)
	holds(t, "over itself", f, saved(of(9, 4)))
	is(t, "Save", manifest.Save(f, of(2, 3)), api.OK)
	holds(t, "over a later one", f, saved(of(2, 3)))
}

// P5.1: all other files stay as they were, with what of them isn't sure.
func TestSaveLeavesOthers(t *testing.T) {
	f := fresh(t, 1000)
	put(t, f, "seg-1", []byte("one"))
	put(t, f, "other", []byte("two"))
	is(t, "Append", f.Append("seg-1", []byte("more")), api.OK)
	is(t, "Save", manifest.Save(f, of(1, 2)), api.OK)
	if got, want := content(t, f), saved(of(1, 2))+" other=74776f seg-1=6f6e656d6f7265"; got != want {
		t.Errorf("Save: %s, want %s", got, want)
	}
	if got, want := content(t, f.Crash(0, nil)), saved(of(1, 2))+" other=74776f seg-1=6f6e65"; got != want {
		t.Errorf("Save: %s is sure, want %s", got, want)
	}
}

// P5.1: Check's error comes first, whatever the file system would say, and nothing is done.
func TestNoManifest(t *testing.T) {
	for _, m := range bad() {
		for _, left := range []int{0, 1, 99} {
			f := fresh(t, 1000)
			put(t, f, "manifest.tmp", []byte("junk"))
			put(t, f, "x", nil)
			is(t, "Arm", f.Arm(left), api.OK)
			n, was := f.Steps(), content(t, f)
			is(t, "Save "+text(m), manifest.Save(f, m), api.ErrRange)
			k, e := manifest.Clean(f, m)
			is(t, "Clean "+text(m), e, api.ErrRange)
			if k != 0 || f.Steps() != n || content(t, f) != was {
				t.Errorf("%.200s: something was done, or removed: %d", text(m), k)
			}
		}
	}
}

// P5.1: each step of a Save fails in each way: its error is answered, what was done stays, and nothing is done behind it.
func TestSaveFails(t *testing.T) {
	old, next := of(1, 1), of(2, 1, 2)
	b := framed(9, written(next))
	for _, tmp := range []bool{false, true} {
		for at := range 6 {
			for k := -1; k < len(b)+8; k++ {
				if k == 0 || !tmp && at == 5 {
					continue
				}
				f := fresh(t, 1000)
				is(t, "Save", manifest.Save(f, old), api.OK)
				if tmp {
					put(t, f, "manifest.tmp", []byte("junk"))
				}
				n := f.Steps()
				f.Plan(append(make([]int, at), k))
				what := fmt.Sprint("planned ", k, " behind ", at, ", manifest.tmp: ", tmp)
				want := map[bool]api.Errno{true: api.ErrSpace, false: api.ErrIO}[k == 2]
				is(t, what, manifest.Save(f, next), want)
				steps(t, what, f, n+at+1)
				if got, want := content(t, f), strings.Join(behind(tmp, at, min(max(k-3, 0), len(b)), old, next), " "); got != want {
					t.Errorf("%s: %s, want %s", what, got, want)
				}
			}
		}
	}
}

// behind: the files behind a Save, ahead of which there was a manifest.tmp or not, after so many of its steps; of the one
// that comes next so many bytes were put, if it is an Append.
func behind(tmp bool, done, put int, old, next manifest.Manifest) []string {
	b := framed(9, written(next))
	if tmp && done == 0 {
		return []string{saved(old), file("manifest.tmp", []byte("junk"))}
	}
	if tmp {
		done--
	}
	switch done {
	case 0:
		return []string{saved(old)}
	case 1:
		return []string{saved(old), file("manifest.tmp", b[:put])}
	case 2, 3:
		return []string{saved(old), file("manifest.tmp", b)}
	}
	return []string{saved(next)}
}

// P5.1: the power goes ahead of each step.
func TestSaveArmed(t *testing.T) {
	old, next := of(1, 1), of(2, 1, 2)
	for _, tmp := range []bool{false, true} {
		all := map[bool]int{false: 5, true: 6}[tmp]
		for left := range all + 2 {
			f := fresh(t, 1000)
			is(t, "Save", manifest.Save(f, old), api.OK)
			if tmp {
				put(t, f, "manifest.tmp", []byte("junk"))
			}
			n := f.Steps()
			is(t, "Arm", f.Arm(left), api.OK)
			what := fmt.Sprint("armed ", left, ", manifest.tmp: ", tmp)
			want := map[bool]api.Errno{true: api.ErrDead, false: api.OK}[left < all]
			is(t, what, manifest.Save(f, next), want)
			steps(t, what, f, n+min(left, all))
			if got, want := content(t, f), strings.Join(behind(tmp, left, 0, old, next), " "); got != want {
				t.Errorf("%s: %s, want %s", what, got, want)
			}
		}
	}
}

// P5.1: where there is no room, of bytes or of names.
func TestSaveWithoutRoom(t *testing.T) {
	m := of(3, 1, 12)
	size := len(framed(9, written(m)))
	f := fresh(t, 2*size-1)
	is(t, "Save", manifest.Save(f, m), api.OK)
	is(t, "Save, no room for two", manifest.Save(f, of(4, 1, 12)), api.ErrSpace)
	steps(t, "Save, no room for two", f, 7)
	loads(t, "Save, no room for two", f, m)
	is(t, "Save again", manifest.Save(f, of(4, 1, 12)), api.ErrSpace)
	steps(t, "Save again", f, 10)
	loads(t, "Save again", f, m)
	f = fresh(t, 2*size)
	is(t, "Save", manifest.Save(f, m), api.OK)
	is(t, "Save, room for two", manifest.Save(f, of(4, 1, 12)), api.OK)
	loads(t, "Save, room for two", f, of(4, 1, 12))

	f = fresh(t, 1000)
	is(t, "Save", manifest.Save(f, m), api.OK)
	for i := range api.MaxFiles - 1 {
		is(t, "Create", f.Create(fmt.Sprint("x", i)), api.OK)
	}
	n, was := f.Steps(), content(t, f)
	is(t, "Save, no room for a name", manifest.Save(f, of(4, 1)), api.ErrFull)
	steps(t, "Save, no room for a name", f, n)
	if content(t, f) != was {
		t.Errorf("Save, no room for a name: %.200s", content(t, f))
	}
	is(t, "Arm", f.Arm(0), api.OK)
	is(t, "Save, no room for a name, dead", manifest.Save(f, of(4, 1)), api.ErrFull)
	f = f.Crash(99, nil)
	is(t, "Remove", f.Remove("x0"), api.OK)
	is(t, "Save, room for a name", manifest.Save(f, of(4, 1)), api.OK)
	loads(t, "Save, room for a name", f, of(4, 1))
	put(t, f, "manifest.tmp", nil)
	is(t, "Save, no room but that of manifest.tmp", manifest.Save(f, of(5, 1)), api.OK)
	loads(t, "Save, no room but that of manifest.tmp", f, of(5, 1))
}

// P5.1: Load of no file, of what is torn, of what isn't a manifest's, and of one; on a dead file system too.
func TestLoad(t *testing.T) {
	f := fresh(t, 100000)
	refusesLoad(t, "no file", f, api.ErrNone)
	put(t, f, "manifest.tmp", framed(9, "1\n1\n"))
	put(t, f, "manifest-1", framed(9, "1\n1\n"))
	refusesLoad(t, "no file of that name", f, api.ErrNone)
	put(t, f, "manifest", nil)
	refusesLoad(t, "an empty file", f, api.ErrForm)
	b := framed(9, "3\n1\n12\n")
	for n := range b {
		is(t, "Remove", f.Remove("manifest"), api.OK)
		put(t, f, "manifest", b[:n])
		refusesLoad(t, "torn", f, api.ErrForm)
	}
	for _, x := range [][]byte{append(bytes.Clone(b), 0), append(bytes.Clone(b), b...), []byte("junk"), framed(8, "3\n1\n12\n"), framed(9, "3\n1\n12"), framed(9, "3\n12\n1\n"), framed(9, "0\n1\n"), make([]byte, 65536)} {
		is(t, "Remove", f.Remove("manifest"), api.OK)
		put(t, f, "manifest", x)
		refusesLoad(t, "not a manifest's", f, api.ErrForm)
	}
	is(t, "Remove", f.Remove("manifest"), api.OK)
	put(t, f, "manifest", b)
	loads(t, "a manifest's", f, of(3, 1, 12))
	is(t, "Arm", f.Arm(0), api.OK)
	loads(t, "a manifest's, dead", f, of(3, 1, 12))
	f = f.Crash(0, nil)
	is(t, "Remove", f.Remove("manifest"), api.OK)
	is(t, "Arm", f.Arm(0), api.OK)
	refusesLoad(t, "removed, dead", f, api.ErrNone)
}
