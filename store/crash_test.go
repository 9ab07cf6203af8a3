package store_test

import (
	"fmt"
	"maps"
	"math/rand"
	"slices"
	"strings"
	"testing"

	"rubric/api"
	"rubric/simfs"
	"rubric/store"
)

// memory: the entries, as the document's words have them.
type memory map[api.Key]store.Op

// behind: the entries behind a batch.
func (m memory) behind(ops ...store.Op) memory {
	n := maps.Clone(m)
	for _, x := range ops {
		if n[x.Key] = x; x.Kind == 0 {
			delete(n, x.Key)
		}
	}
	return n
}

// told: as told tells a store's.
func (m memory) told() string {
	var l []string
	for k, x := range m {
		l = append(l, fmt.Sprintf("%s%d=%s", strings.TrimRight(string(k[:]), "\x00"), x.Kind, short(x.Value)))
	}
	slices.Sort(l)
	return strings.Join(l, " ")
}

// act: a Write, or a Compact.
type act struct {
	ops     []store.Op
	compact bool
}

func (a act) do(s *store.Store) api.Errno {
	if a.compact {
		return s.Compact()
	}
	return s.Write(a.ops...)
}

// script: what is done on a file system, from Open on.
type script struct {
	what  string
	start files
	first memory
	acts  []act
}

// run: it is opened, and all is done, whatever is answered; the entries behind all that answered OK, and those behind one more:
// the first that answered an error; and whether all answered OK.
func (x script) run(f *simfs.FS) (sure, more memory, all bool) {
	sure = x.first
	s, e := store.Open(f)
	if e != api.OK {
		return sure, sure, false
	}
	for i, a := range x.acts {
		if e := a.do(s); e != api.OK {
			for _, b := range x.acts[i:] {
				b.do(s)
			}
			return sure, sure.behind(a.ops...), false
		}
		sure = sure.behind(a.ops...)
	}
	return sure, sure, true
}

// scripts: on each file system that a scenario begins with, Writes and Compacts.
func scripts() []script {
	write := func(ops ...store.Op) act { return act{ops: ops} }
	acts := []act{write(put('b', 1, "y"), gone('c')), write(put('a', 3, "w")), {compact: true}, write(gone('b'), put('d', 1, ""))}
	var l []script
	for _, x := range scenarios() {
		first := memory{}
		if x.before != "" || strings.HasPrefix(x.after, "a2=x") {
			first = first.behind(put('a', 2, "x"), put('c', 3, "zz"), put('b', 9, ""))
		}
		if x.call == nil || x.saved < never {
			l = append(l, script{x.what, x.start, first, acts})
		}
	}
	return l
}

// unsure: how many changes of the directory aren't sure, and how many bytes of the files at most.
func unsure(t *testing.T, f *simfs.FS) (dirs, bytes int) {
	t.Helper()
	left := func(dirs, n int) string { return content(t, f.Crash(dirs, slices.Repeat([]int{n}, 80))) }
	for left(dirs, 999) != left(dirs+1, 999) {
		dirs++
	}
	for left(99, bytes) != left(99, bytes+1) {
		bytes++
	}
	return dirs, bytes
}

// leftovers: what a crash may leave, each once, of so many directory changes and so many bytes of each file.
func leftovers(t *testing.T, f *simfs.FS, dirs, bytes []int, do func(what string, crash func() *simfs.FS)) {
	t.Helper()
	seen := map[string]bool{}
	for _, d := range dirs {
		for _, n := range bytes {
			crash := func() *simfs.FS { return f.Crash(d, slices.Repeat([]int{n}, 80)) }
			if s := content(t, crash()); !seen[s] {
				seen[s] = true
				do(fmt.Sprintf("Crash(%d, %d each)", d, n), crash)
			}
		}
	}
}

// survives: whether what is opened of each leftover has one of these entries; and the same, whatever is cut off within Open,
// and opened again; and can be written and compacted.
func (x script) survives(t *testing.T, what string, f *simfs.FS, known map[string]string, allowed ...memory) {
	t.Helper()
	var fits []string
	for _, m := range allowed {
		fits = append(fits, m.told())
	}
	dirs, bytes := unsure(t, f)
	leftovers(t, f, ids(0, dirs+1), ids(0, bytes+1), func(left string, crash func() *simfs.FS) {
		g := crash()
		files := content(t, g)
		got, ok := known[files]
		if !ok {
			s := opened(t, what+", "+left, g)
			got = told(s)
			known[files] = got
			again(t, what+", "+left, s, g)
			cutOpen(t, what+", "+left, crash, g.Steps(), known, got)
			is(t, what+", "+left+": Write", s.Write(put('q', 1, "q")), api.OK)
			is(t, what+", "+left+": Compact", s.Compact(), api.OK)
			has(t, what+", "+left+", compacted", s, strings.TrimSpace(got+" q1=q"))
			again(t, what+", "+left+", compacted", s, g)
		}
		if !slices.Contains(fits, got) {
			t.Errorf("%s, %s: %q, want one of %q", what, left, got, fits)
		}
	})
}

// cutOpen: the power goes ahead of each of the steps of Open, and whatever is left, it is the same that is opened then.
func cutOpen(t *testing.T, what string, crash func() *simfs.FS, steps int, known map[string]string, want string) {
	t.Helper()
	for n := range steps {
		if n > 14 && n < steps-2 && n != steps/2 {
			continue // amid the orphans
		}
		f := crash()
		is(t, "Arm", f.Arm(n), api.OK)
		if s, e := store.Open(f); s != nil || e != api.ErrDead {
			t.Errorf("%s, cut behind %d steps of Open: %v, %d", what, n, s != nil, e)
		}
		leftovers(t, f, []int{0, 1, 2, 99}, []int{0, 20, 999}, func(left string, crash func() *simfs.FS) {
			g := crash()
			files := content(t, g)
			got, ok := known[files]
			if !ok {
				got = told(opened(t, what+", Open cut, "+left, g))
				known[files] = got
			}
			if got != want {
				t.Errorf("%s, cut behind %d steps of Open, %s: %q, want %q", what, n, left, got, want)
			}
		})
	}
}

// P6.2, P6.3: the power goes ahead of each step of Open, of Writes, turned and compacted, of Compact; or the step fails, in each way;
// with each number of directory changes and of bytes kept, and again within Open.
func TestPower(t *testing.T) {
	if testing.Short() {
		t.Skip("it takes seconds")
	}
	known := map[string]string{} // what is opened of files that were met
	for _, x := range scripts() {
		x.cuts(t, known)
		x.fails(t, known)
	}
}

// cuts: the power goes ahead of each step.
func (x script) cuts(t *testing.T, known map[string]string) {
	seen := map[string]bool{}
	for cut, all := 0, false; !all && !t.Failed(); cut++ {
		f := laid(t, x.start)
		is(t, "Arm", f.Arm(cut), api.OK)
		var sure, more memory
		sure, more, all = x.run(f)
		x.survives(t, fmt.Sprint(x.what, ", cut behind ", cut), f, known, sure, more)
		seen[sure.told()] = true
	}
	if len(seen) != 4 && x.first.told() != "" || len(seen) < 3 {
		t.Errorf("%s: not cut everywhere: %v", x.what, seen)
	}
}

// fails: each step fails, in each way; what is opened then is looked at without a crash, too.
func (x script) fails(t *testing.T, known map[string]string) {
	for at, all := 0, false; !all && !t.Failed(); at++ {
		for _, k := range []int{1, 2, 4, 20, 9999} {
			what := fmt.Sprint(x.what, ", planned ", k, " behind ", at)
			f := laid(t, x.start)
			f.Plan(append(make([]int, at), k))
			var sure, more memory
			sure, more, all = x.run(f)
			f.Plan(nil)
			x.survives(t, what, f, known, sure, more)
			s := opened(t, what, f)
			if got := told(s); got != sure.told() && got != more.told() {
				t.Errorf("%s: %q, want %q or %q", what, got, sure.told(), more.told())
			}
			is(t, what+": Compact", s.Compact(), api.OK)
			again(t, what+", compacted", s, f)
		}
	}
}

// P6.2: what is acknowledged is sure at once.
func TestAcknowledged(t *testing.T) {
	s, f := empty(t)
	m := memory{}
	for i := range 150 {
		ops := []store.Op{put(byte('a'+i%11), 1+i%9, long(i*37%900)), gone(byte('a' + i%7))}
		is(t, "Write", s.Write(ops...), api.OK)
		m = m.behind(ops...)
		if i%20 == 19 {
			is(t, "Compact", s.Compact(), api.OK)
		}
		has(t, fmt.Sprint("Write ", i), s, m.told())
		again(t, fmt.Sprint("Write ", i), s, f)
	}
}

// P6.2: again and again: at random, cut or failing, crashed, opened, and cut off within that.
func TestAgainAndAgain(t *testing.T) {
	cuts := map[string]int{}
	for seed := range int64(150) {
		r := rand.New(rand.NewSource(seed))
		f := fresh(t, room)
		base := memory{}
		for round := range 25 {
			x := script{first: base}
			for range 1 + r.Intn(8) {
				a := act{compact: r.Intn(12) == 0}
				for i := 0; i < 1+r.Intn(4) && !a.compact; i++ {
					a.ops = append(a.ops, put(byte('a'+r.Intn(6)), 1+r.Intn(9), long(r.Intn(1500))))
					if r.Intn(3) == 0 {
						a.ops[i] = gone(a.ops[i].Key[0])
					}
				}
				x.acts = append(x.acts, a)
			}
			switch r.Intn(3) {
			case 0:
				f.Arm(r.Intn(25))
			case 1:
				f.Plan(append(make([]int, r.Intn(25)), []int{1, 2, 4, 50, 400, 9999}[r.Intn(6)]))
			}
			sure, more, all := x.run(f)
			what := fmt.Sprintf("seed %d, round %d", seed, round)
			if f.Plan(nil); !all && r.Intn(2) == 0 {
				if s, e := store.Open(f); e == api.OK && told(s) != sure.told() && told(s) != more.told() {
					t.Fatalf("%s, opened: %q, want %q or %q", what, told(s), sure.told(), more.told())
				}
			}
			tails := make([]int, 70)
			for i := range tails {
				tails[i] = []int{0, 1, 9, 40, 200, 9999}[r.Intn(6)]
			}
			f = f.Crash(r.Intn(8), tails)
			for r.Intn(3) == 0 {
				f.Arm(r.Intn(10))
				store.Open(f)
				f = f.Crash(r.Intn(8), tails)
			}
			u := f.Crash(0, nil)
			got := told(opened(t, what, u))
			cuts[fmt.Sprint(all, got == sure.told(), got == more.told())]++
			switch got {
			case sure.told():
				base = sure
			case more.told():
				base = more
			default:
				t.Fatalf("%s: %q, want %q or %q", what, got, sure.told(), more.told())
			}
		}
	}
	for _, s := range []string{"true true true", "false true false", "false false true"} {
		if cuts[s] < 10 {
			t.Errorf("hardly ever seen: %s (%v)", s, cuts)
		}
	}
}
