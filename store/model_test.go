package store_test

import (
	"bytes"
	"encoding/binary"
	"fmt"
	"math/rand"
	"slices"
	"strings"
	"testing"

	"rubric/api"
	"rubric/manifest"
	"rubric/seglog"
	"rubric/simfs"
	"rubric/store"
)

// words: the store of the document's words, step by step of the file system, with the calls of the layers below that they name.
type words struct {
	f       *simfs.FS
	version int
	segs    []int
	m       memory
	alone   bool
}

// turn: seglog.Create of the next id; a manifest of the next Version and Segs with that id behind is saved.
func (w *words) turn() api.Errno {
	id := w.segs[len(w.segs)-1] + 1
	if e := seglog.Create(w.f, id); e != api.OK {
		return e
	}
	return w.save(append(slices.Clone(w.segs), id))
}

func (w *words) save(segs []int) api.Errno {
	e := manifest.Save(w.f, manifest.Manifest{Version: w.version + 1, Segs: segs})
	if e == api.OK {
		w.version, w.segs = w.version+1, segs
	}
	return e
}

// compact: each entry is appended to the next id; a manifest of that alone is saved; orphans are cleaned.
func (w *words) compact() api.Errno {
	id := w.segs[len(w.segs)-1] + 1
	if e := seglog.Create(w.f, id); e != api.OK {
		return e
	}
	var keys []string
	for k := range w.m {
		keys = append(keys, string(k[:]))
	}
	slices.Sort(keys)
	for _, k := range keys {
		if e := seglog.Append(w.f, id, 1, changes(w.m[api.Key([]byte(k))])); e != api.OK {
			return e
		}
	}
	if e := w.save([]int{id}); e != api.OK {
		return e
	}
	_, e := manifest.Clean(w.f, manifest.Manifest{Version: w.version, Segs: w.segs})
	return e
}

func (w *words) renew() api.Errno {
	if len(w.segs) == 32 {
		return w.compact()
	}
	return w.turn()
}

// live: of all entries their bytes and nine more each.
func (m memory) live() int {
	n := 0
	for _, x := range m {
		n += len(changes(x)) + 9
	}
	return n
}

// wordBatch: the changes of a payload, and whether it is a batch.
func wordBatch(b []byte) (l []store.Op, ok bool) {
	for len(b) > 0 {
		if len(b) < 35 || b[32] > 9 {
			return nil, false
		}
		n := int(binary.LittleEndian.Uint16(b[33:]))
		if len(b) < 35+n || b[32] == 0 && n > 0 {
			return nil, false
		}
		l = append(l, store.Op{Key: api.Key(b[:32]), Kind: int(b[32]), Value: b[35 : 35+n]})
		b = b[35+n:]
	}
	return l, 1 <= len(l) && len(l) <= 64
}

// wordOpen: Open, as its words have it; nil beside an error.
func wordOpen(f *simfs.FS) (*words, api.Errno) {
	w := &words{f: f, m: memory{}}
	if _, e := f.Read("manifest"); e == api.ErrNone {
		return w, w.start()
	}
	m, e := manifest.Load(f)
	if e != api.OK {
		return w, e
	}
	if _, e := manifest.Clean(f, m); e != api.OK {
		return w, e
	}
	w.version, w.segs = m.Version, m.Segs
	found, whole, e := seglog.Read(f, m.Segs...)
	if e != api.OK {
		return w, e
	}
	for _, x := range found {
		ops, ok := wordBatch(x.Payload)
		if w.m = w.m.behind(ops...); x.Kind != 1 || !ok || w.m.live() > 50000 {
			return w, api.ErrForm
		}
	}
	if !whole {
		return w, w.renew()
	}
	return w, api.OK
}

// start: all files are removed, rising; the directory is synced; seglog.Create of 1; a manifest of Version 1 and Segs 1 is saved.
func (w *words) start() api.Errno {
	l := w.f.List()
	for _, name := range l {
		if e := w.f.Remove(name); e != api.OK {
			return e
		}
	}
	if len(l) > 0 {
		if e := w.f.SyncDir(); e != api.OK {
			return e
		}
	}
	if e := seglog.Create(w.f, 1); e != api.OK {
		return e
	}
	return w.save([]int{1})
}

// refuses: the error of a Write that is refused.
func (w *words) refuses(ops []store.Op) api.Errno {
	if w.alone {
		return api.ErrRead
	}
	if len(ops) > 64 {
		return api.ErrFull
	}
	for _, x := range ops {
		if x.Kind < 0 || x.Kind > 9 || x.Kind == 0 && len(x.Value) > 0 {
			return api.ErrRange
		}
	}
	if len(changes(ops...)) > 8192 {
		return api.ErrLong
	}
	if w.m.behind(ops...).live() > 50000 {
		return api.ErrFull
	}
	return api.OK
}

func (w *words) write(ops []store.Op) api.Errno {
	if e := w.refuses(ops); e != api.OK || len(ops) == 0 {
		return e
	}
	e := api.OK
	if b, _ := w.f.Read(named(w.segs[len(w.segs)-1])); len(b) > 4096 {
		e = w.renew()
	}
	if e == api.OK {
		e = seglog.Append(w.f, w.segs[len(w.segs)-1], 1, changes(ops...))
	}
	if w.alone = e != api.OK; !w.alone {
		var kept []store.Op // it isn't the words' that what is handed in isn't kept: so a copy of it
		for _, x := range ops {
			x.Value = bytes.Clone(x.Value)
			kept = append(kept, x)
		}
		w.m = w.m.behind(kept...)
	}
	return e
}

func (w *words) compacts() api.Errno {
	if w.alone {
		return api.ErrRead
	}
	e := w.compact()
	w.alone = e != api.OK
	return e
}

// twins: a store, and the words, each on a file system of its own.
type twins struct {
	s      *store.Store
	f      *simfs.FS
	w      *words
	random *rand.Rand
}

// ops: any changes, most often such as are a batch.
func (x *twins) ops() []store.Op {
	r := x.random
	var l []store.Op
	for range []int{0, 1, 1, 1, 1, 2, 3, 5, 9, 70}[r.Intn(10)] {
		op := put(byte('a'+r.Intn(12)), 1+r.Intn(9), long(r.Intn(1<<uint(1+r.Intn(13)))))
		if r.Intn(4) == 0 {
			op = gone(byte('a' + r.Intn(14)))
		}
		if r.Intn(60) == 0 {
			op.Kind = []int{-1, 0, 10, 256}[r.Intn(4)]
		}
		l = append(l, op)
	}
	return l
}

// both: something is done to both file systems.
func (x *twins) both(do func(f *simfs.FS) *simfs.FS) {
	x.f, x.w.f = do(x.f), do(x.w.f)
}

// open: both are opened anew.
func (x *twins) open() (string, string) {
	s, e := store.Open(x.f)
	w, want := wordOpen(x.w.f)
	x.s, x.w = s, w
	if e != api.OK {
		if s != nil {
			return "a store beside an error", ""
		}
		// Both begin again on a crash: opened without an error, since nothing is planned there, unless the files are no store's.
		x.both(func(f *simfs.FS) *simfs.FS { return f.Crash(99, nil) })
		u, e2 := store.Open(x.f)
		v, want2 := wordOpen(x.w.f)
		if e2 != api.OK {
			x.both(func(*simfs.FS) *simfs.FS { f, _ := simfs.New(room); return f })
			u, _ = store.Open(x.f)
			v, _ = wordOpen(x.w.f)
		}
		x.s, x.w = u, v
		return fmt.Sprint(e, e2), fmt.Sprint(want, want2)
	}
	return fmt.Sprint(e), fmt.Sprint(want)
}

// disturb: a file that isn't the store's comes or goes, or has other bytes.
func (x *twins) disturb() string {
	name := []string{"a", "manifest.tmp", named(x.w.segs[len(x.w.segs)-1] + 1), named(x.w.segs[0]), "manifest"}[x.random.Intn(5)]
	b := each(batch(put('z', 1, "z")), []byte("junk"))[:x.random.Intn(50)]
	kind := x.random.Intn(30)
	x.both(func(f *simfs.FS) *simfs.FS {
		switch {
		case kind == 0:
			f.Remove(name)
		case kind < 4:
			f.Append(name, b)
		default:
			f.Create(name)
		}
		return f
	})
	return fmt.Sprint(" ", name, " ", kind)
}

// step: one call of both; what each answered.
func (x *twins) step() (what, got, want string) {
	r := x.random
	switch r.Intn(20) {
	case 0:
		k := append(make([]int, r.Intn(12)), []int{0, 1, 2, 3, 4, 30, 50, 100, 9999, -1}[r.Intn(10)])
		x.both(func(f *simfs.FS) *simfs.FS { f.Plan(k); return f })
		return fmt.Sprint("Plan ", k), "", ""
	case 1:
		if n := r.Intn(40); n < 12 {
			x.both(func(f *simfs.FS) *simfs.FS { f.Arm(n); return f })
		}
		return "Arm", "", ""
	case 2:
		got, want = x.open()
		return "Open", got, want
	case 3:
		dirs, tails := r.Intn(6), slices.Repeat([]int{r.Intn(100)}, r.Intn(70))
		x.both(func(f *simfs.FS) *simfs.FS { return f.Crash(dirs, tails) })
		got, want = x.open()
		return fmt.Sprint("Crash ", dirs, tails), got, want
	case 4:
		return "Compact", fmt.Sprint(x.s.Compact()), fmt.Sprint(x.w.compacts())
	case 5:
		return "disturb" + x.disturb(), "", ""
	}
	ops := x.ops()
	return "Write", fmt.Sprint(x.s.Write(ops...)), fmt.Sprint(x.w.write(ops))
}

// state: all that a store answers.
func (x *twins) state() (string, string) {
	got := fmt.Sprint(told(x.s), " ", x.s.Live(), x.s.Segs(), x.s.ReadOnly())
	return got, fmt.Sprint(x.w.m.told(), " ", x.w.m.live(), x.w.segs, x.w.alone)
}

// same: whether both file systems are the same, steps and all, and what a crash leaves of them.
func same(t *testing.T, what string, f, g *simfs.FS, dirs int) {
	t.Helper()
	tails := slices.Repeat([]int{20 * dirs}, 70)
	if f.Steps() != g.Steps() || content(t, f) != content(t, g) || content(t, f.Crash(dirs, tails)) != content(t, g.Crash(dirs, tails)) {
		alike(t, what, f, g)
		t.Fatalf("%s: behind Crash(%d, %d each) they differ", what, dirs, 20*dirs)
	}
}

// P6.1, P6.4: whatever is called, both answer the same, and the file systems are the same, steps and what is sure and all.
func TestAsTheWordsSay(t *testing.T) {
	if testing.Short() {
		t.Skip("it takes seconds")
	}
	answered := map[string]int{}
	for seed := range int64(250) {
		x := &twins{random: rand.New(rand.NewSource(seed)), w: &words{}}
		n := 28 + x.random.Intn(5)
		size := room >> uint(x.random.Intn(6))
		x.both(func(*simfs.FS) *simfs.FS {
			f := fresh(t, size)
			for name, b := range map[bool]files{true: segments(n, batch(put('b', 2, long(5000)))), false: {"a": nil}}[seed%3 == 0 && size > 20000] {
				is(t, "Create", f.Create(name), api.OK)
				is(t, "Append", f.Append(name, b), api.OK)
			}
			return f.Crash(99, slices.Repeat([]int{9999}, 64))
		})
		if got, want := x.open(); got != want || got != "0" {
			t.Fatalf("seed %d: Open: %s, want %s", seed, got, want)
		}
		for i := range 80 {
			segs := len(x.s.Segs())
			what, got, want := x.step()
			at := fmt.Sprintf("seed %d, call %d: %s", seed, i, what)
			if got != want {
				t.Fatalf("%s: %s, want %s", at, got, want)
			}
			if got, want := x.state(); got != want {
				t.Fatalf("%s: %.300q, want %.300q", at, got, want)
			}
			if what == "Compact" && got == "0" && x.f.Used() > x.s.Live()+40 {
				t.Fatalf("%s: %d bytes in all, %d live", at, x.f.Used(), x.s.Live())
			}
			same(t, at, x.f, x.w.f, x.random.Intn(5))
			if n := len(x.s.Segs()); what == "Write" && n != segs {
				answered[map[bool]string{true: "turned", false: "compacted"}[n > segs]]++
			}
			answered[strings.Fields(what)[0]+" "+got]++
		}
	}
	for _, s := range []string{"Write 0", "Write 1", "Write 5", "Write 8", "Write 20", "Write 21", "Write 22", "Write 23", "Compact 0", "Compact 20", "Compact 21", "Compact 22", "Compact 23", "Open 0", "Open 22 0", "Open 20 0", "turned", "compacted"} {
		if answered[s] == 0 {
			t.Errorf("never answered: %s (%v)", s, answered)
		}
	}
}
