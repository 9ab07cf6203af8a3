package manifest_test

import (
	"fmt"
	"math/big"
	"math/rand"
	"regexp"
	"strings"
	"testing"

	"rubric/api"
	"rubric/manifest"
	"rubric/simfs"
)

// The document's words, step by step of the file system.

var numbers = regexp.MustCompile(`^([1-9][0-9]*\n){2,33}$`)

// wordParse: the manifest of a payload, and whether it is one's.
func wordParse(payload string) (manifest.Manifest, bool) {
	if !numbers.MatchString(payload) {
		return manifest.Manifest{}, false
	}
	var all []int
	for _, s := range strings.Fields(payload) {
		n, _ := new(big.Int).SetString(s, 10)
		if n.Cmp(big.NewInt(2147483647)) > 0 {
			return manifest.Manifest{}, false
		}
		all = append(all, int(n.Int64()))
		if last := len(all) - 1; last > 1 && all[last-1] >= all[last] {
			return manifest.Manifest{}, false
		}
	}
	return of(all[0], all[1:]...), true
}

// wordSave: whether it is a manifest; then each step, to the first error.
func wordSave(f *simfs.FS, m manifest.Manifest) api.Errno {
	if x, ok := wordParse(written(m)); !ok || text(x) != text(m) {
		return api.ErrRange
	}
	if _, e := f.Read("manifest.tmp"); e == api.OK {
		if e := f.Remove("manifest.tmp"); e != api.OK {
			return e
		}
	}
	if e := f.Create("manifest.tmp"); e != api.OK {
		return e
	}
	if e := f.Append("manifest.tmp", framed(9, written(m))); e != api.OK {
		return e
	}
	if e := f.Sync("manifest.tmp"); e != api.OK {
		return e
	}
	if e := f.Rename("manifest.tmp", "manifest"); e != api.OK {
		return e
	}
	return f.SyncDir()
}

// wordLoad: what is loaded, as a text, and the error.
func wordLoad(f *simfs.FS) (string, api.Errno) {
	b, e := f.Read("manifest")
	if e != api.OK {
		return text(manifest.Manifest{}), api.ErrNone
	}
	if len(b) >= 9 {
		payload := string(b[5 : len(b)-4])
		if m, ok := wordParse(payload); ok && string(framed(9, payload)) == string(b) {
			return text(m), api.OK
		}
	}
	return text(manifest.Manifest{}), api.ErrForm
}

// wordClean: how many are removed, and the error.
func wordClean(f *simfs.FS, m manifest.Manifest) (int, api.Errno) {
	if _, ok := wordParse(written(m)); !ok {
		return 0, api.ErrRange
	}
	own := map[string]bool{"manifest": true}
	for _, id := range m.Segs {
		own[fmt.Sprint("seg-", id)] = true
	}
	n := 0
	for _, name := range f.List() {
		if own[name] {
			continue
		}
		if e := f.Remove(name); e != api.OK {
			return n, e
		}
		n++
	}
	if n == 0 {
		return 0, api.OK
	}
	return n, f.SyncDir()
}

// twins: two file systems, one for the calls, one for the document's words.
type twins struct {
	ours, words *simfs.FS
	random      *rand.Rand
}

// manifest: any, most often one that is right.
func (w *twins) manifest() manifest.Manifest {
	m := of(1 + w.random.Intn(1<<uint(w.random.Intn(32))))
	last := 0
	for range 1 + w.random.Intn(6) {
		last += 1 + w.random.Intn(3)
		m.Segs = append(m.Segs, last)
	}
	at := w.random.Intn(len(m.Segs))
	switch w.random.Intn(30) {
	case 0:
		m.Version = []int{0, -1, 1 << 31, 1<<31 - 1}[w.random.Intn(4)]
	case 1:
		m.Segs[at] = []int{0, -1, 1, 2, 1 << 31, 1<<31 - 1}[w.random.Intn(6)]
	case 2:
		m.Segs = rising(1, 31+w.random.Intn(3))
	case 3:
		m.Segs = nil
	}
	return m
}

// plan: of a few of the next steps.
func (w *twins) plan() []int {
	var l []int
	for w.random.Intn(5) > 0 {
		l = append(l, []int{0, 0, 0, 0, 1, 2, 3, 4, 12, 20, -1, 9999}[w.random.Intn(12)])
	}
	return l
}

// name: of a file that may be there.
func (w *twins) name() string {
	l := []string{"manifest", "manifest.tmp", "a", "z", "seg-0", "seg-01", "seg-1", "seg-2", "seg-3", "seg-5", "seg-8", "seg-2147483647", "seg-2147483648"}
	return l[w.random.Intn(len(l))]
}

// step: one call of both; what each answered.
func (w *twins) step() (what, got, want string) {
	switch w.random.Intn(16) {
	case 0, 1, 2, 3:
		m := w.manifest()
		return "Save " + text(m), fmt.Sprint(manifest.Save(w.ours, m)), fmt.Sprint(wordSave(w.words, m))
	case 4, 5, 6:
		m := w.manifest()
		n, e := manifest.Clean(w.ours, m)
		k, f := wordClean(w.words, m)
		return "Clean " + text(m), fmt.Sprint(e, " ", n), fmt.Sprint(f, " ", k)
	case 7, 8:
		l := w.plan()
		w.ours.Plan(l)
		w.words.Plan(l)
		return fmt.Sprint("Plan ", l), "", ""
	case 9:
		n := w.random.Intn(9)
		return fmt.Sprint("Arm ", n), fmt.Sprint(w.ours.Arm(n)), fmt.Sprint(w.words.Arm(n))
	case 10, 11:
		dirs, tails := w.random.Intn(6), []int{w.random.Intn(30), w.random.Intn(30), w.random.Intn(30), w.random.Intn(30)}
		w.ours, w.words = w.ours.Crash(dirs, tails), w.words.Crash(dirs, tails)
		return fmt.Sprint("Crash ", dirs, tails), "", ""
	case 12, 13, 14:
		name := w.name()
		return "Create " + name, fmt.Sprint(w.ours.Create(name)), fmt.Sprint(w.words.Create(name))
	default:
		name, b := w.name(), []byte{byte(w.random.Intn(256))}
		return "Append " + name, fmt.Sprint(w.ours.Append(name, b)), fmt.Sprint(w.words.Append(name, b))
	}
}

// P5.1: whatever is called, both answer the same, and the file systems are the same, steps and what is sure and all.
func TestAsTheWordsSay(t *testing.T) {
	answered := map[string]int{}
	for seed := range int64(400) {
		w := &twins{ours: fresh(t, 150), words: fresh(t, 150), random: rand.New(rand.NewSource(seed))}
		for i := range 60 {
			what, got, want := w.step()
			if got != want {
				t.Fatalf("seed %d, call %d: %s: %.200s, want %.200s", seed, i, what, got, want)
			}
			m, e := manifest.Load(w.ours)
			x, f := wordLoad(w.words)
			if text(m) != x || e != f {
				t.Fatalf("seed %d, call %d: %s: Load: %s, %d, want %s, %d", seed, i, what, text(m), e, x, f)
			}
			answered[fmt.Sprint(strings.Fields(what)[0], " ", strings.Fields(got + " .")[0])]++
			answered[fmt.Sprint("Load ", e)]++
			w.alike(t, fmt.Sprintf("seed %d, call %d: %s", seed, i, what))
		}
	}
	for _, s := range []string{"Save 0", "Save 1", "Save 20", "Save 21", "Save 22", "Clean 0", "Clean 1", "Clean 20", "Clean 21", "Clean 22", "Load 0", "Load 2", "Load 3"} {
		if answered[s] == 0 {
			t.Errorf("never answered: %s (%v)", s, answered)
		}
	}
}

// alike: whether both file systems are the same, and what a crash would leave of them.
func (w *twins) alike(t *testing.T, what string) {
	t.Helper()
	if w.ours.Steps() != w.words.Steps() {
		t.Fatalf("%s: %d steps, want %d", what, w.ours.Steps(), w.words.Steps())
	}
	if ours, words := content(t, w.ours), content(t, w.words); ours != words {
		t.Fatalf("%s: %.200s, want %.200s", what, ours, words)
	}
	for dirs := range 5 {
		for _, tails := range [][]int{nil, {99, 99, 99, 99, 99, 99, 99, 99}} {
			if ours, words := content(t, w.ours.Crash(dirs, tails)), content(t, w.words.Crash(dirs, tails)); ours != words {
				t.Fatalf("%s: Crash(%d, %v): %.200s, want %.200s", what, dirs, tails, ours, words)
			}
		}
	}
}
