package store_test

import (
	"bytes"
	"encoding/binary"
	"fmt"
	"hash/crc32"
	"slices"
	"strings"
	"testing"

	"rubric/api"
	"rubric/simfs"
	"rubric/store"
)

// The faces that the document lists, signatures and all.
var (
	_ func(*simfs.FS) (*store.Store, api.Errno)       = store.Open
	_ func(*store.Store, ...store.Op) api.Errno       = (*store.Store).Write
	_ func(*store.Store, api.Key) (int, []byte, bool) = (*store.Store).Get
	_ func(*store.Store) []api.Key                    = (*store.Store).Keys
	_ func(*store.Store) api.Errno                    = (*store.Store).Compact
	_ func(*store.Store) int                          = (*store.Store).Live
	_ func(*store.Store) []int                        = (*store.Store).Segs
	_ func(*store.Store) bool                         = (*store.Store).ReadOnly
	_                                                 = store.Op{Key: api.Key{}, Kind: 0, Value: nil}
	_ [store.MaxLive - 50000]int                      = [0]int{}
	_ [store.SegBytes - 4096]int                      = [0]int{}
)

// room: as much as a file system may have.
const room = 1 << 20

// fresh: a file system of so much room.
func fresh(t *testing.T, room int) *simfs.FS {
	t.Helper()
	f, e := simfs.New(room)
	if e != api.OK {
		t.Fatalf("New(%d): %d", room, e)
	}
	return f
}

// is: whether that error was answered.
func is(t *testing.T, what string, got, want api.Errno) {
	t.Helper()
	if got != want {
		t.Errorf("%s: %d, want %d", what, got, want)
	}
}

// opened: the store on a file system.
func opened(t *testing.T, what string, f *simfs.FS) *store.Store {
	t.Helper()
	s, e := store.Open(f)
	if e != api.OK || s == nil {
		t.Fatalf("%s: Open: %d", what, e)
	}
	return s
}

// empty: a store on a fresh file system.
func empty(t *testing.T) (*store.Store, *simfs.FS) {
	t.Helper()
	f := fresh(t, room)
	return opened(t, "empty", f), f
}

// key: one that begins with the sign.
func key(sign byte) api.Key { return api.Key{sign} }

// put: an entry, whose key begins with the sign.
func put(sign byte, kind int, value string) store.Op {
	return store.Op{Key: key(sign), Kind: kind, Value: []byte(value)}
}

// gone: a deletion.
func gone(sign byte) store.Op { return store.Op{Key: key(sign)} }

// many: n entries of the kind 1, each with a value of so many bytes.
func many(n, size int) []store.Op {
	var l []store.Op
	for i := range n {
		l = append(l, store.Op{Key: api.Key{byte(i), byte(i >> 8), 7}, Kind: 1, Value: make([]byte, size)})
	}
	return l
}

// long: a value of so many bytes.
func long(n int) string { return strings.Repeat("v", n) }

// short: a value as a text that isn't long.
func short(v []byte) string {
	if len(v) > 20 {
		return fmt.Sprintf("%d bytes, %x", len(v), crc32.ChecksumIEEE(v))
	}
	return string(v)
}

// told: a store's entries as a text: of each its key, without the zeros behind, its kind, its value.
func told(s *store.Store) string {
	var l []string
	for _, k := range s.Keys() {
		kind, v, ok := s.Get(k)
		if !ok {
			return fmt.Sprintf("no entry of key %x", k)
		}
		l = append(l, fmt.Sprintf("%s%d=%s", bytes.TrimRight(k[:], "\x00"), kind, short(v)))
	}
	return strings.Join(l, " ")
}

// has: whether these are a store's entries.
func has(t *testing.T, what string, s *store.Store, want string) {
	t.Helper()
	if got := told(s); got != want {
		t.Errorf("%s: %.300q, want %.300q", what, got, want)
	}
}

// content: all names, rising, and what is in each.
func content(t *testing.T, f *simfs.FS) string {
	var l strings.Builder
	for i, name := range f.List() {
		b, e := f.Read(name)
		if e != api.OK {
			t.Errorf("Read %s: %d", name, e)
		}
		if i > 0 {
			l.WriteByte(' ')
		}
		l.WriteString(name + "=")
		l.Write(b)
	}
	return l.String()
}

// size: how many bytes a file has.
func size(t *testing.T, f *simfs.FS, name string) int {
	t.Helper()
	b, e := f.Read(name)
	is(t, "Read "+name, e, api.OK)
	return len(b)
}

// framed: the bytes of a frame, by the library's sum.
func framed(kind int, payload []byte) []byte {
	b := binary.LittleEndian.AppendUint32(nil, uint32(len(payload)))
	b = append(append(b, byte(kind)), payload...)
	return binary.LittleEndian.AppendUint32(b, crc32.Checksum(b[4:], crc32.MakeTable(crc32.Castagnoli)))
}

// changes: the bytes of changes, one behind the other.
func changes(ops ...store.Op) []byte {
	var b []byte
	for _, x := range ops {
		b = append(append(b, x.Key[:]...), byte(x.Kind))
		b = append(binary.LittleEndian.AppendUint16(b, uint16(len(x.Value))), x.Value...)
	}
	return b
}

// batch: the bytes of a batch's frame.
func batch(ops ...store.Op) []byte { return framed(1, changes(ops...)) }

// each: of all the bytes, one behind the other.
func each(parts ...[]byte) []byte { return bytes.Join(parts, nil) }

// untouched: a call that answers this error, changes nothing, and is no step.
func untouched(t *testing.T, what string, s *store.Store, f *simfs.FS, want api.Errno, call func() api.Errno) {
	t.Helper()
	state := func() string {
		return fmt.Sprint(told(s), s.Live(), s.Segs(), s.ReadOnly(), f.Steps(), content(t, f))
	}
	was := state()
	is(t, what, call(), want)
	if got := state(); got != was {
		t.Errorf("%s: %.300q, it was %.300q", what, got, was)
	}
}

// written: a Write that goes well, of one batch behind the others, which is sure then; two steps.
func written(t *testing.T, what string, s *store.Store, f *simfs.FS, ops ...store.Op) {
	t.Helper()
	n, name := f.Steps(), fmt.Sprint("seg-", s.Segs()[len(s.Segs())-1])
	was, _ := f.Read(name)
	is(t, what, s.Write(ops...), api.OK)
	if f.Steps() != n+2 {
		t.Errorf("%s: %d steps, want 2", what, f.Steps()-n)
	}
	for _, x := range []*simfs.FS{f, f.Crash(0, nil)} {
		if b, e := x.Read(name); e != api.OK || string(b) != string(each(was, batch(ops...))) {
			t.Errorf("%s: %s: %.300q, %d", what, name, b, e)
		}
	}
}

// again: whether a store opened on the same, and one opened behind a crash that keeps nothing unsure, is the same, without a step.
func again(t *testing.T, what string, s *store.Store, f *simfs.FS) {
	t.Helper()
	for _, x := range []*simfs.FS{f, f.Crash(0, nil)} {
		n, was := x.Steps(), content(t, x)
		u := opened(t, what+", again", x)
		if told(u) != told(s) || u.Live() != s.Live() || !slices.Equal(u.Segs(), s.Segs()) || u.ReadOnly() {
			t.Errorf("%s, again: %.300q, %d, %v, %v; want %.300q, %d, %v", what, told(u), u.Live(), u.Segs(), u.ReadOnly(), told(s), s.Live(), s.Segs())
		}
		if x.Steps() != n || content(t, x) != was {
			t.Errorf("%s, again: %d steps, %.300q, it was %.300q", what, x.Steps()-n, content(t, x), was)
		}
	}
}

// P6.1: the document's example.
func TestExample(t *testing.T) {
	s, f := empty(t)
	is(t, "Write", s.Write(put('a', 1, "x"), put('b', 1, "y")), api.OK)
	is(t, "Write", s.Write(gone('a')), api.OK)
	if k := s.Keys(); !slices.Equal(k, []api.Key{key('b')}) {
		t.Errorf("Keys: %v", k)
	}
	has(t, "the example", s, "b1=y")
	again(t, "the example", s, f)
}

// P6.1: an empty store: what it answers, and its files.
func TestEmpty(t *testing.T) {
	s, f := empty(t)
	if len(s.Keys()) != 0 || s.Live() != 0 || s.ReadOnly() || !slices.Equal(s.Segs(), []int{1}) {
		t.Errorf("empty: %v, %d, %v, %v", s.Keys(), s.Live(), s.ReadOnly(), s.Segs())
	}
	if got, want := content(t, f), "manifest="+string(framed(9, []byte("1\n1\n")))+" seg-1="; got != want {
		t.Errorf("empty: %q, want %q", got, want)
	}
	if kind, v, ok := s.Get(key('a')); kind != 0 || len(v) != 0 || ok {
		t.Errorf("Get of none: %d, %q, %v", kind, v, ok)
	}
	again(t, "empty", s, f)
}

// P6.1: none, one, 64 and 65 changes.
func TestHowMany(t *testing.T) {
	s, f := empty(t)
	untouched(t, "Write of none", s, f, api.OK, func() api.Errno { return s.Write() })
	untouched(t, "Write of none", s, f, api.OK, func() api.Errno { return s.Write([]store.Op{}...) })
	for _, n := range []int{1, 2, 63, 64} {
		s, f = empty(t)
		written(t, fmt.Sprint("Write of ", n), s, f, many(n, 1)...)
		if len(s.Keys()) != n || s.Live() != 45*n {
			t.Errorf("Write of %d: %d keys, %d live bytes", n, len(s.Keys()), s.Live())
		}
		again(t, fmt.Sprint("Write of ", n), s, f)
	}
	for _, n := range []int{65, 66, 128, 1000} {
		untouched(t, fmt.Sprint("Write of ", n), s, f, api.ErrFull, func() api.Errno { return s.Write(many(n, 1)...) })
		untouched(t, fmt.Sprint("Write of ", n, " deletions"), s, f, api.ErrFull, func() api.Errno { return s.Write(make([]store.Op, n)...) })
	}
	s, f = empty(t)
	written(t, "Write of 64 deletions", s, f, make([]store.Op, 64)...)
	written(t, "Write of 64 changes of one key", s, f, slices.Repeat([]store.Op{put('a', 1, "x")}, 64)...)
	has(t, "Write of 64 changes of one key", s, "a1=x")
}

// P6.1: which kinds there are; a deletion has no value, be it nil or empty.
func TestKinds(t *testing.T) {
	s, f := empty(t)
	for kind := 1; kind <= 9; kind++ {
		written(t, fmt.Sprint("Kind ", kind), s, f, put('a', kind, "x"))
		has(t, fmt.Sprint("Kind ", kind), s, fmt.Sprintf("a%d=x", kind))
		again(t, fmt.Sprint("Kind ", kind), s, f)
	}
	for _, kind := range []int{-1 << 63, -256, -255, -10, -9, -1, 10, 11, 255, 256, 257, 1<<32 + 1, 1<<63 - 1} {
		for _, x := range []store.Op{put('a', kind, ""), put('a', kind, "x"), {Kind: kind}} {
			untouched(t, fmt.Sprint("Kind ", kind), s, f, api.ErrRange, func() api.Errno { return s.Write(x) })
			untouched(t, fmt.Sprint("Kind ", kind, " first"), s, f, api.ErrRange, func() api.Errno { return s.Write(x, put('b', 1, "y")) })
			untouched(t, fmt.Sprint("Kind ", kind, " last"), s, f, api.ErrRange, func() api.Errno { return s.Write(put('b', 1, "y"), gone('a'), x) })
		}
	}
	untouched(t, "a deletion with a value", s, f, api.ErrRange, func() api.Errno { return s.Write(put('a', 0, "x")) })
	untouched(t, "a deletion of none with a value", s, f, api.ErrRange, func() api.Errno { return s.Write(put('b', 1, "y"), put('c', 0, "\x00")) })
	written(t, "an empty value", s, f, store.Op{Key: key('a'), Kind: 3, Value: []byte{}}, store.Op{Key: key('b'), Kind: 4})
	has(t, "an empty value", s, "a3= b4=")
	again(t, "an empty value", s, f)
	for _, k := range s.Keys() {
		if _, v, ok := s.Get(k); len(v) != 0 || !ok {
			t.Errorf("an empty value: %q, %v", v, ok)
		}
	}
	written(t, "deletions", s, f, store.Op{Key: key('a'), Value: []byte{}}, store.Op{Key: key('b')})
	has(t, "deletions", s, "")
	if _, _, ok := s.Get(key('a')); ok || s.Live() != 0 {
		t.Errorf("deletions: %v, %d live bytes", ok, s.Live())
	}
	again(t, "deletions", s, f)
}

// P6.1: changes of one key, in one batch and over many: the last one stays.
func TestOneKey(t *testing.T) {
	for _, x := range []struct {
		want string
		ops  []store.Op
	}{
		{"a2=y", []store.Op{put('a', 1, "x"), put('a', 2, "y")}},
		{"a1=x", []store.Op{put('a', 2, "y"), put('a', 1, "x")}},
		{"", []store.Op{put('a', 1, "x"), gone('a')}},
		{"a3=z", []store.Op{put('a', 1, "x"), gone('a'), put('a', 3, "z")}},
		{"a3=z", []store.Op{gone('a'), put('a', 3, "z")}},
		{"a9= b1=w", []store.Op{put('a', 1, "xxx"), put('b', 1, "w"), put('a', 9, "")}},
		{"b2=", []store.Op{put('b', 1, "w"), gone('b'), gone('a'), put('a', 1, "x"), gone('a'), put('b', 2, "")}},
		{"", []store.Op{gone('a')}},
		{"", []store.Op{gone('a'), gone('a'), gone('b')}},
		{"c1=", []store.Op{gone('a'), put('c', 1, ""), gone('b')}},
	} {
		what := fmt.Sprint(x.ops)
		s, f := empty(t)
		written(t, what, s, f, x.ops...)
		has(t, what, s, x.want)
		again(t, what, s, f)
		s, f = empty(t)
		for _, op := range x.ops {
			written(t, what+", one by one", s, f, op)
		}
		has(t, what+", one by one", s, x.want)
		again(t, what+", one by one", s, f)
		is(t, what+", one by one: Compact", s.Compact(), api.OK)
		has(t, what+", compacted", s, x.want)
		again(t, what+", compacted", s, f)
	}
}

// P6.1: a deletion of a key that there is not is written, too, and changes no entry.
func TestDeletionOfNone(t *testing.T) {
	s, f := empty(t)
	written(t, "Write", s, f, put('b', 1, "y"))
	for _, sign := range []byte{0, 'a', 'c', 255} {
		written(t, "a deletion of none", s, f, gone(sign))
		has(t, "a deletion of none", s, "b1=y")
	}
	other := key('b')
	other[31] = 1
	written(t, "a deletion of none", s, f, store.Op{Key: other})
	has(t, "a deletion of none", s, "b1=y")
	again(t, "a deletion of none", s, f)
}

// P6.1: keys rise byte by byte, over all 32, and each counts.
func TestKeys(t *testing.T) {
	s, f := empty(t)
	var want []api.Key
	for at := 31; at >= 0; at-- {
		for _, x := range []byte{1, 127, 128, 255} {
			var k api.Key
			k[at] = x
			want = append(want, k)
		}
	}
	mixed := slices.Concat(want[64:], want[:64])
	slices.Reverse(mixed[10:100])
	for i, k := range mixed {
		is(t, "Write", s.Write(store.Op{Key: k, Kind: 1 + i%9, Value: k[:]}), api.OK)
	}
	if got := s.Keys(); !slices.Equal(got, want) {
		t.Errorf("Keys: %v", got)
	}
	for i, k := range mixed {
		if kind, v, ok := s.Get(k); kind != 1+i%9 || string(v) != string(k[:]) || !ok {
			t.Errorf("Get(%x): %d, %x, %v", k, kind, v, ok)
		}
	}
	again(t, "keys", s, f)
}

// P6.1: payloads of MaxPayload bytes, and of one more; values whose length needs both bytes.
func TestPayload(t *testing.T) {
	s, f := empty(t)
	for _, n := range []int{255, 256, 257, 511, 512} {
		written(t, fmt.Sprint(n, " bytes"), s, f, put('a', 1, long(n)))
		again(t, fmt.Sprint(n, " bytes"), s, f)
	}
	const most = api.MaxPayload - 35
	untouched(t, "one byte more than fit", s, f, api.ErrLong, func() api.Errno { return s.Write(put('a', 1, long(most+1))) })
	for _, n := range []int{most + 2, 65535, 65536, 65537, 65536 + 10, 1 << 20} {
		untouched(t, fmt.Sprint(n, " bytes"), s, f, api.ErrLong, func() api.Errno { return s.Write(put('a', 1, long(n))) })
	}
	two := []store.Op{put('b', 1, long(most-100)), put('c', 1, long(65))}
	untouched(t, "two, one byte more than fit", s, f, api.ErrLong, func() api.Errno { return s.Write(put('b', 1, long(most-100)), put('c', 1, long(66))) })
	untouched(t, "a deletion more than fits", s, f, api.ErrLong, func() api.Errno { return s.Write(two[0], two[1], gone('b')) })
	untouched(t, "one key, one byte more than fit", s, f, api.ErrLong, func() api.Errno { return s.Write(put('b', 1, long(most-100)), put('b', 1, long(66))) })
	written(t, "two that fit", s, f, two...)
	has(t, "two that fit", s, fmt.Sprintf("a1=%s b1=%s c1=%s", short([]byte(long(512))), short(two[0].Value), short(two[1].Value)))
	again(t, "two that fit", s, f)

	s, f = empty(t)
	written(t, "as many as fit", s, f, put('a', 1, long(most)))
	has(t, "as many as fit", s, "a1="+short([]byte(long(most))))
	again(t, "as many as fit", s, f)
	s, f = empty(t)
	written(t, "64 that fit", s, f, many(64, 93)...)
	untouched(t, "64 that are one byte too long", s, f, api.ErrLong, func() api.Errno { return s.Write(append(many(63, 93), put('x', 1, long(94)))...) })
	again(t, "64 that fit", s, f)
}

// filled: a store of so many live bytes, in 50 entries, whose keys begin with 0 to 49.
func filled(t *testing.T, live int) (*store.Store, *simfs.FS) {
	t.Helper()
	s, f := empty(t)
	for i := range 50 {
		n := live / 50
		if i == 49 {
			n = live - 49*n
		}
		is(t, "Write", s.Write(put(byte(i), 1, long(n-44))), api.OK)
	}
	if s.Live() != live {
		t.Fatalf("%d live bytes, want %d", s.Live(), live)
	}
	return s, f
}

// P6.1: live bytes up to MaxLive, and one more, where entries come, grow, go, ahead in the batch and behind.
func TestLive(t *testing.T) {
	of := func(l ...store.Op) []store.Op { return l }
	for _, x := range []struct {
		what string
		live int // ahead, so that just MaxLive are behind
		ops  []store.Op
	}{
		{"another one", 49956, of(put(100, 1, ""))},
		{"another one with a value", 49856, of(put(100, 1, long(100)))},
		{"a longer one", 49990, of(put(7, 1, long(49990/50-44+10)))},
		{"64 others", 47120, many(64, 1)},
		{"one more that stays as long", 50000, of(put(7, 2, long(1000-44)))},
		{"one goes, one comes, in its place", 50000, of(gone(7), put(100, 1, long(1000-44)))},
		{"one comes, one goes, in its place", 50000, of(put(100, 1, long(1000-44)), gone(7))},
		{"one comes and goes", 50000, of(put(100, 1, long(3000)), gone(100))},
		{"one comes, is longer, is shorter", 49900, of(put(100, 1, ""), put(100, 1, long(5000)), put(100, 1, long(56)))},
		{"two come, two go behind", 50000, of(put(100, 1, long(3000)), put(101, 1, long(1000)), gone(100), gone(101))},
		{"one goes twice, one comes twice", 50000, of(gone(7), gone(7), put(100, 1, long(1000-44)), put(100, 1, long(1000-44)))},
	} {
		s, f := filled(t, x.live)
		is(t, x.what, s.Write(x.ops...), api.OK)
		if s.Live() != store.MaxLive {
			t.Errorf("%s: %d live bytes", x.what, s.Live())
		}
		again(t, x.what, s, f)
		untouched(t, x.what+", then one more", s, f, api.ErrFull, func() api.Errno { return s.Write(put(200, 1, "")) })
		is(t, x.what+": Compact", s.Compact(), api.OK)
		if n := f.Used(); s.Live() != store.MaxLive || n > store.MaxLive+40 {
			t.Errorf("%s, compacted: %d live bytes, %d in all", x.what, s.Live(), n)
		}
		again(t, x.what+", compacted", s, f)
		last := x.ops[len(x.ops)-1]
		if x.live < store.MaxLive {
			s, f = filled(t, x.live+1)
			untouched(t, x.what+", one byte more ahead", s, f, api.ErrFull, func() api.Errno { return s.Write(x.ops...) })
		}
		if last.Kind != 0 {
			s, f = filled(t, x.live)
			last.Value = append(bytes.Clone(last.Value), 'v')
			ops := append(slices.Clone(x.ops[:len(x.ops)-1]), last)
			untouched(t, x.what+", one byte more", s, f, api.ErrFull, func() api.Errno { return s.Write(ops...) })
		}
	}
	s, f := filled(t, 50000)
	untouched(t, "one goes, and one comes that is one byte longer, ahead of it", s, f, api.ErrFull, func() api.Errno { return s.Write(put(100, 1, long(1000-43)), gone(7)) })
	untouched(t, "one that isn't there goes, one comes", s, f, api.ErrFull, func() api.Errno { return s.Write(gone(99), put(100, 1, "")) })
	untouched(t, "one goes and comes again, one byte longer", s, f, api.ErrFull, func() api.Errno { return s.Write(gone(7), put(7, 1, long(1000-43))) })
	is(t, "a shorter one", s.Write(put(7, 1, long(1000-45))), api.OK)
	if s.Live() != 49999 {
		t.Errorf("a shorter one: %d live bytes", s.Live())
	}
}

// P6.1: which error is answered, where two would fit.
func TestWhichError(t *testing.T) {
	s, f := filled(t, 50000)
	bad := put('x', 10, "")
	tooLong := put('x', 1, long(9000))
	for _, x := range []struct {
		what string
		want api.Errno
		ops  []store.Op
	}{
		{"too many, one of no kind", api.ErrFull, append(many(64, 0), bad)},
		{"too many, too long", api.ErrFull, append(many(64, 0), tooLong)},
		{"of no kind, too long, behind it", api.ErrRange, []store.Op{bad, tooLong}},
		{"of no kind, too long, ahead of it", api.ErrRange, []store.Op{tooLong, bad}},
		{"of no kind, itself too long", api.ErrRange, []store.Op{put('x', -1, long(9000))}},
		{"a deletion with a value, too long", api.ErrRange, []store.Op{put('x', 0, long(9000))}},
		{"of no kind, too many live bytes", api.ErrRange, []store.Op{put('y', 1, "y"), bad}},
		{"too long, too many live bytes", api.ErrLong, []store.Op{tooLong}},
		{"too many live bytes", api.ErrFull, []store.Op{put('x', 1, "")}},
	} {
		untouched(t, x.what, s, f, x.want, func() api.Errno { return s.Write(x.ops...) })
		is(t, "Arm", f.Arm(0), api.OK)
		untouched(t, x.what+", dead", s, f, x.want, func() api.Errno { return s.Write(x.ops...) })
		f = f.Crash(0, nil)
		s = opened(t, x.what, f)
	}
	is(t, "Arm", f.Arm(0), api.OK)
	untouched(t, "Write of none, dead", s, f, api.OK, func() api.Errno { return s.Write() })
	is(t, "Write, dead", s.Write(gone(7)), api.ErrDead)
	readsAlone(t, "dead", s, f)
}

// readsAlone: whether all that change something answer ErrRead, whatever it is.
func readsAlone(t *testing.T, what string, s *store.Store, f *simfs.FS) {
	t.Helper()
	if !s.ReadOnly() {
		t.Errorf("%s: it isn't read-only", what)
	}
	for _, ops := range [][]store.Op{nil, {put('z', 1, "z")}, {gone('z')}, {put('z', 10, "")}, {put('z', 0, "z")}, {put('z', 1, long(9000))}, many(65, 0)} {
		untouched(t, what+": Write, read-only", s, f, api.ErrRead, func() api.Errno { return s.Write(ops...) })
	}
	untouched(t, what+": Compact, read-only", s, f, api.ErrRead, s.Compact)
}

// P6.5: what is handed in stays, spare room and all, and isn't kept; answers are new memory.
func TestMemory(t *testing.T) {
	s, f := empty(t)
	ops := append(make([]store.Op, 0, 9), put('a', 1, "one"), put('b', 2, "two"), put('a', 3, "three"), gone('c'))
	for i := range ops {
		ops[i].Value = append(append(make([]byte, 0, 50), ops[i].Value...), "spare"...)[:len(ops[i].Value)]
	}
	was := fmt.Sprint(ops)
	is(t, "Write", s.Write(ops...), api.OK)
	if fmt.Sprint(ops) != was {
		t.Errorf("Write changed what was handed in: %v", ops)
	}
	for i, x := range ops {
		if spare := x.Value[len(x.Value):cap(x.Value)]; string(spare[:5]) != "spare" {
			t.Errorf("Write changed what is behind what was handed in: %q", spare)
		}
		for j := range x.Value[:cap(x.Value)] {
			x.Value[:cap(x.Value)][j] = '!'
		}
		ops[i] = put('q', 9, "q")
	}
	if spare := ops[4:9]; fmt.Sprint(spare) != fmt.Sprint(make([]store.Op, 5)) {
		t.Errorf("Write changed what is behind what was handed in: %v", spare)
	}
	has(t, "Write keeps what was handed in", s, "a3=three b2=two")
	is(t, "Compact", s.Compact(), api.OK)
	spoil := func(s *store.Store) {
		for _, k := range append(s.Keys(), key('x')) {
			_, v, _ := s.Get(k)
			for i := range v[:cap(v)] {
				v[:cap(v)][i] = '!'
			}
		}
		l := s.Keys()
		for i := range l[:cap(l)] {
			l[:cap(l)][i] = key('!')
		}
		ids := s.Segs()
		for i := range ids[:cap(ids)] {
			ids[:cap(ids)][i] = -1
		}
	}
	for what, u := range map[string]*store.Store{"written": s, "opened again": opened(t, "again", f)} {
		spoil(u)
		has(t, what+", spoiled", u, "a3=three b2=two")
		if !slices.Equal(u.Segs(), []int{2}) || len(u.Keys()) != 2 {
			t.Errorf("%s, spoiled: %v, %v", what, u.Segs(), u.Keys())
		}
	}
	again(t, "spoiled", s, f)
	_, v, _ := s.Get(key('a'))
	is(t, "Write", s.Write(put('a', 1, "other"), gone('b')), api.OK)
	if string(v) != "three" {
		t.Errorf("an answer changed: %q", v)
	}
	has(t, "Write", s, "a1=other")
}

// P6.5: stores of different file systems have nothing in common.
func TestTwo(t *testing.T) {
	s, f := empty(t)
	written(t, "Write", s, f, put('a', 1, "x"))
	g := f.Crash(0, nil)
	u := opened(t, "the other", g)
	written(t, "Write", s, f, put('b', 1, "y"))
	written(t, "Write of the other", u, g, gone('a'), put('c', 2, "z"))
	has(t, "the one", s, "a1=x b1=y")
	has(t, "the other", u, "c2=z")
	again(t, "the one", s, f)
	again(t, "the other", u, g)
}
