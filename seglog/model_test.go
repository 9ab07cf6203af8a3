package seglog_test

import (
	"encoding/binary"
	"fmt"
	"hash/crc32"
	"math/rand"
	"slices"
	"strings"
	"testing"

	"rubric/api"
	"rubric/seglog"
	"rubric/simfs"
)

// The document's words, step by step of the file system, with frames by the library's sum.

// wordName: the name of a segment's file; empty, if the id is outside.
func wordName(id int) string {
	if id >= 1 && id <= 2147483647 {
		return fmt.Sprintf("seg-%d", id)
	}
	return ""
}

// wordCreate: the file system's Create of the name, then its SyncDir; the first error.
func wordCreate(f *simfs.FS, id int) api.Errno {
	if wordName(id) == "" {
		return api.ErrRange
	}
	if e := f.Create(wordName(id)); e != api.OK {
		return e
	}
	return f.SyncDir()
}

// wordFrame: the bytes of a frame.
func wordFrame(kind int, payload []byte) []byte {
	b := binary.LittleEndian.AppendUint32(nil, uint32(len(payload)))
	b = append(append(b, byte(kind)), payload...)
	return binary.LittleEndian.AppendUint32(b, crc32.Checksum(b[4:], crc32.MakeTable(crc32.Castagnoli)))
}

// wordAppend: the frame's error; else the Append of its bytes, then the Sync of the name; the first error.
func wordAppend(f *simfs.FS, id, kind int, payload []byte) api.Errno {
	name := wordName(id)
	if name == "" || kind < 1 || kind > 9 {
		return api.ErrRange
	}
	if len(payload) > 8192 {
		return api.ErrLong
	}
	if e := f.Append(name, wordFrame(kind, payload)); e != api.OK {
		return e
	}
	return f.Sync(name)
}

// wordScan: the frames of the front, each as a text, and what is behind.
func wordScan(id int, b []byte) ([]string, []byte) {
	var l []string
	for kind := 1; kind <= 9; kind++ {
		if len(b) < 9 {
			break
		}
		n := int(binary.LittleEndian.Uint32(b))
		if n > 8192 || n > len(b)-9 {
			break
		}
		one := wordFrame(kind, b[5:5+n])
		if string(one) == string(b[:n+9]) {
			l = append(l, fmt.Sprintf("%d:%d%s", id, kind, b[5:5+n]))
			b, kind = b[n+9:], 0
		}
	}
	return l, b
}

// wordRead: the entries as a text, whether nothing is behind the last front, and the error.
func wordRead(f *simfs.FS, ids []int) (string, bool, api.Errno) {
	for _, id := range ids {
		if wordName(id) == "" {
			return "", false, api.ErrRange
		}
	}
	var all []string
	whole := true
	for _, id := range ids {
		b, e := f.Read(wordName(id))
		if e != api.OK {
			return "", false, e
		}
		l, rest := wordScan(id, b)
		all, whole = append(all, l...), len(rest) == 0
	}
	return strings.Join(all, " "), whole, api.OK
}

// twins: two file systems, one for the calls, one for the document's words.
type twins struct {
	ours, words *simfs.FS
	random      *rand.Rand
}

// id: any, most often one of few.
func (w *twins) id() int {
	few := []int{1, 2, 3, 1<<31 - 1, 0, -1, 1 << 31}
	if n := w.random.Intn(12); n < len(few) {
		return few[n]
	}
	return 1 + w.random.Intn(2)
}

// parts: of bytes of all sorts; now and then too many, or just not.
func (w *twins) parts() [][]byte {
	b := make([]byte, w.random.Intn(12))
	switch w.random.Intn(20) {
	case 0:
		b = make([]byte, 8192)
	case 1:
		b = make([]byte, 8193)
	}
	w.random.Read(b)
	var l [][]byte
	for w.random.Intn(3) > 0 {
		n := w.random.Intn(len(b) + 1)
		l = append(l, b[:n])
		b = b[n:]
	}
	return append(l, b)
}

// plan: of a few of the next steps.
func (w *twins) plan() []int {
	var l []int
	for w.random.Intn(4) > 0 {
		l = append(l, []int{0, 0, 0, 1, 2, 3, 4, 8, 14, -1, 9999}[w.random.Intn(11)])
	}
	return l
}

// step: one call of both; what each answered.
func (w *twins) step() (what, got, want string) {
	switch n := w.random.Intn(20); n {
	case 0, 1, 2:
		id := w.id()
		return fmt.Sprint("Create ", id), fmt.Sprint(seglog.Create(w.ours, id)), fmt.Sprint(wordCreate(w.words, id))
	case 3, 4, 5, 6, 7, 8, 9:
		id, kind, parts := w.id(), w.random.Intn(11), w.parts()
		whole := slices.Concat(parts...)
		what = fmt.Sprint("Append ", id, kind, len(whole), len(parts))
		return what, fmt.Sprint(seglog.Append(w.ours, id, kind, parts...)), fmt.Sprint(wordAppend(w.words, id, kind, whole))
	case 10, 11, 12, 13:
		var ids []int
		for w.random.Intn(3) > 0 {
			ids = append(ids, w.id())
		}
		l, whole, e := seglog.Read(w.ours, ids...)
		all, rest, f := wordRead(w.words, ids)
		return fmt.Sprint("Read ", ids), fmt.Sprintf("%q %v %d", told(l), whole, e), fmt.Sprintf("%q %v %d", all, rest, f)
	case 14, 15:
		l := w.plan()
		w.ours.Plan(l)
		w.words.Plan(l)
		return fmt.Sprint("Plan ", l), "", ""
	case 16:
		n := w.random.Intn(8)
		return fmt.Sprint("Arm ", n), fmt.Sprint(w.ours.Arm(n)), fmt.Sprint(w.words.Arm(n))
	case 17, 18:
		dirs, tails := w.random.Intn(4), []int{w.random.Intn(30), w.random.Intn(30), w.random.Intn(9000)}
		w.ours, w.words = w.ours.Crash(dirs, tails), w.words.Crash(dirs, tails)
		return fmt.Sprint("Crash ", dirs, tails), "", ""
	default:
		name := fmt.Sprint("seg-", 1+w.random.Intn(3))
		junk := [][]byte{{0}, {0, 0, 0, 0, 1}, wordFrame(3, []byte("junk"))}[w.random.Intn(3)]
		return "junk in " + name, fmt.Sprint(w.ours.Append(name, junk), w.ours.Remove("seg-3")), fmt.Sprint(w.words.Append(name, junk), w.words.Remove("seg-3"))
	}
}

// P4.1: whatever is called, both answer the same, and the file systems are the same, steps and what is sure and all.
func TestAsTheWordsSay(t *testing.T) {
	answered := map[string]int{}
	for seed := range int64(400) {
		w := &twins{ours: fresh(t, 20000), words: fresh(t, 20000), random: rand.New(rand.NewSource(seed))}
		for i := range 60 {
			what, got, want := w.step()
			if got != want {
				t.Fatalf("seed %d, call %d: %s: %.200s, want %.200s", seed, i, what, got, want)
			}
			answered[strings.Fields(what)[0]+" "+got[:min(len(got), 2)]]++
			if w.ours.Steps() != w.words.Steps() {
				t.Fatalf("seed %d, call %d: %s: %d steps, want %d", seed, i, what, w.ours.Steps(), w.words.Steps())
			}
			for _, dirs := range []int{0, 1, 99} {
				for _, tails := range [][]int{nil, {99999, 99999, 99999, 99999, 99999}} {
					if ours, words := content(t, w.ours.Crash(dirs, tails)), content(t, w.words.Crash(dirs, tails)); ours != words {
						t.Fatalf("seed %d, call %d: %s: Crash(%d, %v): %.200s, want %.200s", seed, i, what, dirs, tails, ours, words)
					}
				}
			}
			if ours, words := content(t, w.ours), content(t, w.words); ours != words {
				t.Fatalf("seed %d, call %d: %s: %.200s, want %.200s", seed, i, what, ours, words)
			}
		}
	}
	for _, s := range []string{"Create 0", "Create 1", "Create 4", "Create 20", "Create 21", "Create 22", "Append 0", "Append 1", "Append 3", "Append 5", "Append 20", "Append 21", "Append 22"} {
		if answered[s] == 0 {
			t.Errorf("never answered: %s (%v)", s, answered)
		}
	}
}
