package manifest_test

import (
	"bytes"
	"encoding/binary"
	"fmt"
	"hash/crc32"
	"math"
	"slices"
	"strings"
	"sync"
	"testing"

	"rubric/api"
	"rubric/manifest"
	"rubric/simfs"
)

// The faces that the document lists, signatures and all.
var (
	_ func(manifest.Manifest) api.Errno                   = manifest.Manifest.Check
	_ func(manifest.Manifest) ([]byte, api.Errno)         = manifest.Encode
	_ func([]byte) (manifest.Manifest, api.Errno)         = manifest.Decode
	_ func(*simfs.FS, manifest.Manifest) api.Errno        = manifest.Save
	_ func(*simfs.FS) (manifest.Manifest, api.Errno)      = manifest.Load
	_ func(*simfs.FS, manifest.Manifest) (int, api.Errno) = manifest.Clean
	_                                                     = manifest.Manifest{Version: 1, Segs: []int{1}}
)

// of: a manifest.
func of(version int, segs ...int) manifest.Manifest {
	return manifest.Manifest{Version: version, Segs: segs}
}

// rising: n ids, from first on.
func rising(first, n int) []int {
	l := make([]int, n)
	for i := range l {
		l[i] = first + i
	}
	return l
}

// good: manifests, ordinary ones and those at the edges.
func good() []manifest.Manifest {
	return []manifest.Manifest{
		of(3, 1, 12), of(1, 1), of(2, 1), of(1, 2), of(1<<31-1, 1), of(1, 1<<31-1), of(1<<31-2, 1<<31-2, 1<<31-1), of(7, 1, 1<<31-1), of(10, 9, 10, 11),
		of(5, rising(1, 31)...), of(5, rising(1, 32)...), of(1<<31-1, rising(1<<31-32, 32)...), of(100, 1, 10, 100, 1000, 10000, 100000), of(9, 9), of(2, 20, 200),
	}
}

// bad: what is no manifest.
func bad() []manifest.Manifest {
	return []manifest.Manifest{
		{}, of(1), of(1, []int{}...), of(0, 1), of(-1, 1), of(1<<31, 1), of(1<<31+1, 1), of(1<<32+1, 1), of(math.MinInt, 1), of(math.MaxInt, 1), of(-1<<31, 1),
		of(1, 0), of(1, -1), of(1, 1<<31), of(1, 1<<32+1), of(1, math.MinInt), of(1, math.MaxInt), of(1, 0, 1), of(1, -1, 1), of(1, -2, -1), of(1, 1, 1<<31), of(1, 1, math.MaxInt),
		of(1, 2, 1), of(1, 1, 1), of(1, 1, 2, 2), of(1, 1, 1, 2), of(1, 1, 3, 2), of(1, 3, 1, 2), of(1, 1, 2, 0), of(1, 2, 3, 1), of(1, 1<<31-1, 1), of(1, 1<<31-1, 1<<31-1),
		of(1, rising(1, 33)...), of(1, rising(0, 32)...), of(1, rising(1<<31-31, 32)...), of(1, rising(1, 1000)...), of(1, append(rising(1, 31), 31)...), of(0), of(0, 2, 1),
	}
}

// text: what is in a manifest.
func text(m manifest.Manifest) string { return fmt.Sprintf("%d:%d", m.Version, m.Segs) }

// framed: the bytes of a frame, by the library's sum.
func framed(kind int, payload string) []byte {
	b := binary.LittleEndian.AppendUint32(nil, uint32(len(payload)))
	b = append(append(b, byte(kind)), payload...)
	return binary.LittleEndian.AppendUint32(b, crc32.Checksum(b[4:], crc32.MakeTable(crc32.Castagnoli)))
}

// written: a manifest's payload.
func written(m manifest.Manifest) string {
	s := fmt.Sprintln(m.Version)
	for _, id := range m.Segs {
		s += fmt.Sprintln(id)
	}
	return s
}

// is: whether that error was answered.
func is(t *testing.T, what string, got, want api.Errno) {
	t.Helper()
	if got != want {
		t.Errorf("%s: %d, want %d", what, got, want)
	}
}

// decodes: whether b is that manifest's bytes.
func decodes(t *testing.T, what string, b []byte, want manifest.Manifest) {
	t.Helper()
	if m, e := manifest.Decode(b); e != api.OK || text(m) != text(want) {
		t.Errorf("%s: Decode(%.200q): %.200s, %d, want %.200s", what, b, text(m), e, text(want))
	}
}

// refuses: whether b is no manifest's bytes, and nothing is beside the error.
func refuses(t *testing.T, what string, b []byte) {
	t.Helper()
	if m, e := manifest.Decode(b); e != api.ErrForm || m.Version != 0 || len(m.Segs) != 0 {
		t.Errorf("%s: Decode(%.200q): %.200s, %d, want ErrForm alone", what, b, text(m), e)
	}
}

// P5.1: which are manifests, and which aren't.
func TestCheck(t *testing.T) {
	for _, m := range good() {
		is(t, "Check "+text(m), m.Check(), api.OK)
	}
	for _, m := range bad() {
		is(t, "Check "+text(m), m.Check(), api.ErrRange)
	}
}

// P5.1: each place counts: 1 to 32 ids, of which one is out of order, or outside.
func TestCheckEachPlace(t *testing.T) {
	for n := range 40 {
		fits := map[bool]api.Errno{true: api.OK, false: api.ErrRange}[1 <= n && n <= 32]
		is(t, fmt.Sprint(n, " ids"), of(1, rising(5, n)...).Check(), fits)
		for at := range n {
			for _, id := range []int{-1, 0, 1, 4, 5, 7, 36, 1<<31 - 1, 1 << 31} {
				l := rising(5, n)
				l[at] = id
				want := fits
				if id < 1 || id >= 1<<31 || at > 0 && id <= l[at-1] || at < n-1 && id >= l[at+1] {
					want = api.ErrRange
				}
				is(t, fmt.Sprint("Check ", l), of(1, l...).Check(), want)
			}
		}
	}
}

// P5.1: the document's example, byte for byte.
func TestExample(t *testing.T) {
	b, e := manifest.Encode(of(3, 1, 12))
	is(t, "Encode", e, api.OK)
	if want := framed(9, "3\n1\n12\n"); !bytes.Equal(b, want) || len(b) != 16 {
		t.Errorf("Encode: %x, want %x", b, want)
	}
	decodes(t, "the example", b, of(3, 1, 12))
}

// P5.1, P5.3: what is encoded is a frame of kind 9, and is decoded.
func TestEncode(t *testing.T) {
	for _, m := range good() {
		b, e := manifest.Encode(m)
		is(t, "Encode "+text(m), e, api.OK)
		if want := framed(9, written(m)); !bytes.Equal(b, want) {
			t.Errorf("Encode(%.200s): %.200x, want %.200x", text(m), b, want)
		}
		decodes(t, "what was encoded", b, m)
	}
	for _, m := range bad() {
		if b, e := manifest.Encode(m); e != api.ErrRange || len(b) != 0 {
			t.Errorf("Encode(%.200s): %.200x, %d, want ErrRange alone", text(m), b, e)
		}
	}
}

// P5.1, P5.3: of what isn't a manifest the bytes aren't decoded, though the frame is right.
func TestDecodeOfBad(t *testing.T) {
	for _, m := range bad() {
		refuses(t, text(m), framed(9, written(m)))
	}
}

// P5.1, P5.3: each beginning, bytes more, and each byte that is another one.
func TestDecodeChanged(t *testing.T) {
	for _, m := range good() {
		b := framed(9, written(m))
		for n := range b {
			refuses(t, "a beginning", b[:n])
			refuses(t, "an end", b[n+1:])
		}
		for _, x := range []string{"\x00", "\n", "1", "1\n", "\xff"} {
			refuses(t, "a byte more", append(bytes.Clone(b), x...))
			refuses(t, "a byte more ahead", append([]byte(x), b...))
		}
		refuses(t, "twice", append(bytes.Clone(b), b...))
	}
	for _, m := range []manifest.Manifest{of(3, 1, 12), of(1<<31-1, 1<<31-1)} {
		b := framed(9, written(m))
		for at := range b {
			for x := range 256 {
				c := bytes.Clone(b)
				c[at] = byte(x)
				if byte(x) == b[at] {
					decodes(t, "the same", c, m)
				} else {
					refuses(t, "another byte", c)
				}
			}
		}
	}
}

// P5.1, P5.3: frames of other kinds.
func TestDecodeOfOtherKinds(t *testing.T) {
	for kind := range 256 {
		if b := framed(kind, "3\n1\n12\n"); kind == 9 {
			decodes(t, "kind 9", b, of(3, 1, 12))
		} else {
			refuses(t, fmt.Sprint("kind ", kind), b)
		}
	}
	refuses(t, "no frame", nil)
	refuses(t, "no frame", []byte{})
	refuses(t, "no frame", []byte("3\n1\n12\n"))
	refuses(t, "no frame", make([]byte, 9))
	refuses(t, "zeros", make([]byte, 100000))
	refuses(t, "too long a payload", framed(9, "1\n1\n"+strings.Repeat("2\n", 5000)))
}

// P5.1, P5.3: frames of kind 9 whose payload is no manifest's.
func TestDecodeOfOtherPayloads(t *testing.T) {
	for _, s := range []string{
		"", "\n", "\n\n", "\n\n\n", "3", "3\n", "3\n1", "3\n1\n12", "31", "3\n\n", "\n3\n1\n", "3\n\n1\n", "3\n1\n\n", "3\n1\n\n12\n", "3\n1\n12\n\n", "\n3\n1",
		"03\n1\n", "3\n01\n", "3\n1\n012\n", "00\n1\n", "3\n00\n", "0\n1\n", "3\n0\n", "3\n0\n1\n", "003\n1\n", "0x3\n1\n", "0b1\n1\n", "3\n0o1\n",
		"+3\n1\n", "3\n+1\n", "-3\n1\n", "3\n-1\n", "3\n1\n+12\n", "3\n-0\n", "--3\n1\n", "+-3\n1\n",
		" 3\n1\n", "3 \n1\n", "3\n 1\n", "3\n1 \n", "3\n1\n 12\n", "3\n1\n12 \n", "3\n1\n12\n ", " \n3\n1\n", "3 1\n12\n", "3\n1 12\n", "3\t\n1\n", "3\r\n1\r\n", "3\n1\r\n",
		"2147483648\n1\n", "3\n2147483648\n", "3\n1\n2147483648\n", "4294967297\n1\n", "3\n4294967297\n", "9223372036854775807\n1\n", "3\n9223372036854775807\n",
		"9223372036854775808\n1\n", "3\n9223372036854775808\n", "18446744073709551617\n1\n", "3\n18446744073709551617\n", "3\n1\n18446744073709551628\n",
		"100000000000000000000000000000000000000001\n1\n", "3\n100000000000000000000000000000000000000001\n", "3\n" + strings.Repeat("1", 8000) + "\n",
		"3\n12\n1\n", "3\n1\n1\n", "3\n1\n12\n12\n", "3\n1\n12\n2\n", "3\n2147483647\n1\n", "3\n1\n0\n",
		"a\n1\n", "3\na\n", "3\n1\n1a\n", "3\n1\na2\n", "3,1,12\n", "3\n1,12\n", "3\n1_2\n", "1_3\n1\n", "3\n1.0\n", "3.0\n1\n", "3\n1e1\n", "1e1\n1\n", "3\nff\n", "3;1;12;",
		"3\n\xb2\n", "3\n²\n", "3\n١\n", "３\n1\n", "3\n\xff\n", "3\n1\x00\n", "\x003\n1\n", "3\x001\x00", "3\n1\n\x00", "3\n1\n\n\n\n", "3\n1\v", "3\n1\n12\r", "3\n1\n12\f",
		"3\n" + strings.Repeat("\n", 32), strings.Repeat("\n", 8192), "3\n1\n" + strings.Repeat("\n", 8000), strings.Repeat("1\n", 33), strings.Repeat("1", 8191) + "\n",
	} {
		refuses(t, fmt.Sprintf("%.40q", s), framed(9, s))
	}
	for n := range 40 {
		m := of(3, rising(1, n)...)
		if b := framed(9, written(m)); 1 <= n && n <= 32 {
			decodes(t, fmt.Sprint(n, " ids"), b, m)
		} else {
			refuses(t, fmt.Sprint(n, " ids"), b)
		}
	}
}

// P5.3: each payload that is another one by a byte is another manifest's, or none's.
func TestDecodeOfChangedPayloads(t *testing.T) {
	for _, s := range []string{"3\n1\n12\n", "10\n9\n10\n", "2147483647\n2147483646\n2147483647\n"} {
		for at := range len(s) + 1 {
			for x := range 256 {
				texts := []string{s[:at] + string([]byte{byte(x)}) + s[at:]}
				if at < len(s) {
					texts = append(texts, s[:at]+string([]byte{byte(x)})+s[at+1:], s[:at]+s[at+1:])
				}
				for _, p := range texts {
					if want, ok := wordParse(p); ok {
						decodes(t, "another payload", framed(9, p), want)
					} else {
						refuses(t, "another payload", framed(9, p))
					}
				}
			}
		}
	}
}

// P5.3: what is handed in stays, spare room too, and what becomes of it later counts for nothing.
func TestHandedIn(t *testing.T) {
	ids := []int{1, 12, 7, 0, 9}
	m := of(3, ids[:2]...)
	is(t, "Check", m.Check(), api.OK)
	b, e := manifest.Encode(m)
	is(t, "Encode", e, api.OK)
	f := fresh(t, 1000)
	is(t, "Save", manifest.Save(f, m), api.OK)
	f.Create("seg-7")
	f.Create("seg-1")
	if n, e := manifest.Clean(f, m); n != 1 || e != api.OK {
		t.Errorf("Clean: %d, %d", n, e)
	}
	is(t, "Check", of(3, ids...).Check(), api.ErrRange)
	is(t, "Save", manifest.Save(f, of(3, ids...)), api.ErrRange)
	if !slices.Equal(ids, []int{1, 12, 7, 0, 9}) {
		t.Errorf("ids: %v", ids)
	}
	clear(ids)
	decodes(t, "encoded", b, of(3, 1, 12))
	loads(t, "saved", f, of(3, 1, 12))
	room := append(bytes.Clone(b), "spare"...)
	x, e := manifest.Decode(room[:len(b)])
	is(t, "Decode", e, api.OK)
	if !bytes.Equal(room, append(bytes.Clone(b), "spare"...)) {
		t.Errorf("bytes: %x", room)
	}
	clear(room)
	if text(x) != text(of(3, 1, 12)) {
		t.Errorf("what was decoded changed: %s", text(x))
	}
}

// P5.3: answers are one's own, spare room too: no other answer has them, nor has the file.
func TestAnswersAreNew(t *testing.T) {
	m := of(3, 1, 12)
	b, _ := manifest.Encode(m)
	c, _ := manifest.Encode(m)
	clear(b[:cap(b)])
	decodes(t, "another answer", c, m)
	f := fresh(t, 1000)
	is(t, "Save", manifest.Save(f, m), api.OK)
	for range 2 {
		x, _ := manifest.Load(f)
		y, _ := manifest.Load(f)
		v, _ := manifest.Decode(c)
		w, _ := manifest.Decode(c)
		clear(x.Segs[:cap(x.Segs)])
		clear(v.Segs[:cap(v.Segs)])
		if text(y) != text(m) || text(w) != text(m) || text(x) != "3:[0 0]" {
			t.Errorf("another answer changed: %s, %s, %s", text(x), text(y), text(w))
		}
		loads(t, "the file", f, m)
		decodes(t, "the bytes", c, m)
	}
}

// P7 (R8): each call depends on what it is given alone, also where many are at work.
func TestManyAtWork(t *testing.T) {
	var wait sync.WaitGroup
	for n := range 8 {
		f := fresh(t, 1<<16)
		wait.Go(func() {
			for i := range 100 {
				m := of(1+i, rising(1+n, 1+i%32)...)
				is(t, "Save", manifest.Save(f, m), api.OK)
				loads(t, "its own", f, m)
				is(t, "Create", f.Create("seg-1000"), api.OK)
				if k, e := manifest.Clean(f, m); k != 1 || e != api.OK {
					t.Errorf("Clean: %d, %d", k, e)
				}
			}
		})
	}
	wait.Wait()
}
