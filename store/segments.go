package store

import (
	"rubric/api"
	"rubric/manifest"
	"rubric/seglog"
)

const maxSegs = 32

// log: the batch is appended to the active segment; to another one, if that has more bytes than SegBytes.
func (s *Store) log(ops ...Op) api.Errno {
	full, e := s.full()
	if e != api.OK {
		return e
	}
	if full {
		if e := s.renew(); e != api.OK {
			return e
		}
	}
	return seglog.Append(s.files, s.active(), batchKind, payload(ops...))
}

// active: the last segment; 0, if there is none.
func (s *Store) active() int {
	n := len(s.Manifest.Segs)
	if n == 0 {
		return 0
	}
	return s.Manifest.Segs[n-1]
}

// full: whether the active segment's file has more bytes than SegBytes.
func (s *Store) full() (bool, api.Errno) {
	name, e := seglog.Name(s.active())
	if e != api.OK {
		return false, e
	}
	b, e := s.files.Read(name)
	return len(b) > SegBytes, e
}

// renew: it is turned; or compacted, if a manifest has no place for one more segment.
func (s *Store) renew() api.Errno {
	if len(s.Manifest.Segs) < maxSegs {
		return s.turn()
	}
	return s.compact()
}

// turn: another active segment, behind the others.
func (s *Store) turn() api.Errno {
	id := s.active() + 1
	if e := seglog.Create(s.files, id); e != api.OK {
		return e
	}
	return s.save(append(s.Segs(), id)...)
}

// compact: another segment in place of all others, with the entries alone, each as a batch of its own.
func (s *Store) compact() api.Errno {
	id := s.active() + 1
	if e := seglog.Create(s.files, id); e != api.OK {
		return e
	}
	for entry := range s.rising() {
		if e := seglog.Append(s.files, id, batchKind, payload(entry)); e != api.OK {
			return e
		}
	}
	if e := s.save(id); e != api.OK {
		return e
	}
	_, e := manifest.Clean(s.files, s.Manifest)
	return e
}

// save: the next manifest, of these segments; without an error it is the store's.
func (s *Store) save(segs ...int) api.Errno {
	next := manifest.Manifest{Version: s.Version + 1, Segs: segs}
	if e := manifest.Save(s.files, next); e != api.OK {
		return e
	}
	s.Manifest = next
	return api.OK
}
