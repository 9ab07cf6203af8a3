package manifest

import (
	"slices"

	"rubric/api"
	"rubric/seglog"
	"rubric/simfs"
)

const (
	name      = "manifest"
	temporary = "manifest.tmp"
)

// Save: it is swapped in, whole; ErrRange, if it is no manifest; else the file system's first error.
func Save(f *simfs.FS, m Manifest) api.Errno {
	b, e := Encode(m)
	if e != api.OK {
		return e
	}
	return inTurn(
		func() api.Errno { return removeAny(f, temporary) },
		func() api.Errno { return f.Create(temporary) },
		func() api.Errno { return f.Append(temporary, b) },
		func() api.Errno { return f.Sync(temporary) },
		func() api.Errno { return f.Rename(temporary, name) },
		f.SyncDir,
	)
}

// Load: the one that there is; ErrNone, if there is no file; ErrForm, if it is no manifest's.
func Load(f *simfs.FS) (Manifest, api.Errno) {
	b, e := f.Read(name)
	if e != api.OK {
		return Manifest{}, e
	}
	return Decode(b)
}

// Clean: its orphans are removed; how many were, also beside an error; ErrRange, if it is no manifest; else the file
// system's first error.
func Clean(f *simfs.FS, m Manifest) (int, api.Errno) {
	if e := m.Check(); e != api.OK {
		return 0, e
	}
	removed := 0
	var steps []func() api.Errno
	for _, orphan := range orphans(f.List(), m.Segs...) {
		steps = append(steps, func() api.Errno {
			e := f.Remove(orphan)
			if e == api.OK {
				removed++
			}
			return e
		})
	}
	if len(steps) > 0 {
		steps = append(steps, f.SyncDir)
	}
	e := inTurn(steps...)
	return removed, e
}

// inTurn: the steps are done, up to the first that fails; its error.
func inTurn(steps ...func() api.Errno) api.Errno {
	for _, step := range steps {
		if e := step(); e != api.OK {
			return e
		}
	}
	return api.OK
}

// removeAny: the file is removed, if there is one.
func removeAny(f *simfs.FS, file string) api.Errno {
	e := f.Remove(file)
	if e == api.ErrNone {
		return api.OK
	}
	return e
}

// orphans: those of the names, in their order, that are neither the manifest's nor one of the segments'.
func orphans(names []string, segs ...int) []string {
	var l []string
	for _, s := range names {
		id, ok := seglog.ID(s)
		if s != name && !(ok && slices.Contains(segs, id)) {
			l = append(l, s)
		}
	}
	return l
}
