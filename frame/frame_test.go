package frame_test

import (
	"bytes"
	"encoding/binary"
	"fmt"
	"hash/crc32"
	"math"
	"slices"
	"testing"

	"rubric/api"
	"rubric/frame"
)

// The faces that the document lists, signatures and all.
var (
	_ func(...[]byte) uint32                   = frame.Sum
	_ func(int, ...[]byte) ([]byte, api.Errno) = frame.Encode
	_ func([]byte) (frame.Frame, api.Errno)    = frame.Decode
	_ func([]byte) ([]frame.Frame, int)        = frame.Scan
)

// sample: n bytes of all sorts, the same ones each time; another seed gives other ones.
func sample(n int, seed uint32) []byte {
	b := make([]byte, n)
	for i := range b {
		seed = seed*1664525 + 1013904223
		b[i] = byte(seed >> 24)
	}
	return b
}

// wordSum: the sum of b, bit by bit as the document's words have it.
func wordSum(b []byte) uint32 {
	c := uint32(0xFFFFFFFF)
	for _, x := range b {
		c ^= uint32(x)
		for range 8 {
			if c&1 == 1 {
				c = c>>1 ^ 0x82F63B78
			} else {
				c >>= 1
			}
		}
	}
	return ^c
}

// forged: bytes laid as a frame's, with this length and this kind, right or not, and the right sum.
func forged(length uint32, kind byte, payload []byte) []byte {
	b := binary.LittleEndian.AppendUint32(nil, length)
	b = append(append(b, kind), payload...)
	return binary.LittleEndian.AppendUint32(b, wordSum(b[4:]))
}

// bytesOf: a frame's bytes.
func bytesOf(kind int, payload []byte) []byte {
	return forged(uint32(len(payload)), byte(kind), payload)
}

// changed: b with another byte there.
func changed(b []byte, at int, x byte) []byte {
	c := bytes.Clone(b)
	c[at] = x
	return c
}

// lengthened: b, saying another length.
func lengthened(b []byte, length uint32) []byte {
	c := bytes.Clone(b)
	binary.LittleEndian.PutUint32(c, length)
	return c
}

// encoded: what Encode answers, which has to be sound.
func encoded(t *testing.T, kind int, parts ...[]byte) []byte {
	t.Helper()
	b, e := frame.Encode(kind, parts...)
	if e != api.OK {
		t.Fatalf("Encode(%d, %d parts): %d", kind, len(parts), e)
	}
	return b
}

// decodes: whether b is this frame's.
func decodes(t *testing.T, what string, b []byte, kind int, payload []byte) {
	t.Helper()
	f, e := frame.Decode(b)
	if e != api.OK || f.Kind != kind || !bytes.Equal(f.Payload, payload) {
		t.Errorf("%s: Decode: kind %d, %d bytes, %d; want kind %d, %d bytes", what, f.Kind, len(f.Payload), e, kind, len(payload))
	}
}

// refuses: whether Decode answers this error, and no frame beside it.
func refuses(t *testing.T, what string, b []byte, want api.Errno) {
	t.Helper()
	f, e := frame.Decode(b)
	if e != want || f.Kind != 0 || len(f.Payload) != 0 {
		t.Errorf("%s: Decode: kind %d, %d bytes, %d; want %d alone", what, f.Kind, len(f.Payload), e, want)
	}
}

// fronts: whether the front of b is these frames, of so many bytes.
func fronts(t *testing.T, what string, b []byte, want []frame.Frame, n int) {
	t.Helper()
	l, got := frame.Scan(b)
	if got != n || !slices.EqualFunc(l, want, same) {
		t.Errorf("%s: Scan: %d frames of %d bytes; want %d of %d", what, len(l), got, len(want), n)
	}
}

// same: whether two frames are one.
func same(a, b frame.Frame) bool { return a.Kind == b.Kind && bytes.Equal(a.Payload, b.Payload) }

// row: frames of all kinds, none to many bytes each, one behind the other; and where each ends.
func row() (frames []frame.Frame, b []byte, ends []int) {
	for i, n := range []int{0, 3, 1, 0, 40, 2, 9, 0, 255, 256, 7} {
		f := frame.Frame{Kind: 1 + i%9, Payload: sample(n, uint32(i))}
		frames = append(frames, f)
		b = append(b, bytesOf(f.Kind, f.Payload)...)
		ends = append(ends, len(b))
	}
	return frames, b, ends
}

// P3.1: the document's example, and sums that RFC 3720 has.
func TestKnownSums(t *testing.T) {
	rising, falling := make([]byte, 32), make([]byte, 32)
	for i := range 32 {
		rising[i], falling[i] = byte(i), byte(31-i)
	}
	for _, c := range []struct {
		b    []byte
		want uint32
	}{
		{[]byte("123456789"), 0xe3069283},
		{nil, 0},
		{[]byte{}, 0},
		{[]byte{0}, 0x527d5351},
		{[]byte("a"), 0xc1d04330},
		{make([]byte, 32), 0x8a9136aa},
		{bytes.Repeat([]byte{255}, 32), 0x62a8ab43},
		{rising, 0x46dd794e},
		{falling, 0x113fdb5c},
	} {
		if got := frame.Sum(c.b); got != c.want {
			t.Errorf("Sum of %x: %08x, want %08x", c.b, got, c.want)
		}
	}
}

// P3.1: the sum by the document's words, and by the library's, of every byte and of every length.
func TestSum(t *testing.T) {
	castagnoli := crc32.MakeTable(crc32.Castagnoli)
	check := func(b []byte) {
		got := frame.Sum(b)
		if got != wordSum(b) || got != crc32.Checksum(b, castagnoli) {
			t.Errorf("Sum of %d bytes, %x at first: %08x, want %08x", len(b), b[:min(len(b), 4)], got, wordSum(b))
		}
	}
	for x := range 256 {
		check([]byte{byte(x)})
		check([]byte{0, byte(x), 255})
	}
	for n := range 300 {
		check(sample(n, uint32(n)))
	}
	for _, n := range []int{8191, 8192, 8193, 65536, 1 << 20} {
		check(sample(n, 3))
	}
}

// P3.1: parts that are none, nil, empty, cut anywhere, many, and their order.
func TestSumOfParts(t *testing.T) {
	for _, parts := range [][][]byte{nil, {}, {nil}, {{}}, {nil, {}, nil}} {
		if c := frame.Sum(parts...); c != 0 {
			t.Errorf("Sum of %d parts without a byte: %08x", len(parts), c)
		}
	}
	b := sample(150, 7)
	want := wordSum(b)
	var single [][]byte
	for i := range b {
		single = append(single, b[i:i+1])
		if frame.Sum(b[:i], b[i:]) != want || frame.Sum(nil, b[:i], []byte{}, b[i:], nil) != want {
			t.Errorf("Sum of parts, cut at %d: another one", i)
		}
	}
	if frame.Sum(single...) != want || frame.Sum(b) != want {
		t.Error("Sum of parts of one byte each: another one")
	}
	var many [][]byte
	var all []byte
	for i := range 200 {
		many = append(many, sample(i%50, uint32(i)))
		all = append(all, many[i]...)
	}
	if frame.Sum(many...) != wordSum(all) {
		t.Error("Sum of 200 parts: another one")
	}
	if frame.Sum([]byte("b"), []byte("a")) != frame.Sum([]byte("ba")) || frame.Sum([]byte("a"), []byte("b")) == frame.Sum([]byte("ba")) {
		t.Error("Sum: the parts aren't in their order")
	}
}

// P3.1: the document's example, and bytes that are worked out by hand.
func TestEncode(t *testing.T) {
	for _, c := range []struct {
		kind  int
		parts [][]byte
		want  []byte
	}{
		{1, nil, []byte{0, 0, 0, 0, 1, 0x52, 0xd0, 0x16, 0xa0}},
		{1, [][]byte{nil, {}}, []byte{0, 0, 0, 0, 1, 0x52, 0xd0, 0x16, 0xa0}},
		{9, nil, bytesOf(9, nil)},
		{2, [][]byte{[]byte("abc")}, []byte{3, 0, 0, 0, 2, 'a', 'b', 'c', 0x8b, 0xf4, 0x2f, 0xa1}},
		{2, [][]byte{[]byte("a"), nil, []byte("bc"), {}}, bytesOf(2, []byte("abc"))},
	} {
		if got := encoded(t, c.kind, c.parts...); !bytes.Equal(got, c.want) {
			t.Errorf("Encode(%d, %d parts): % x, want % x", c.kind, len(c.parts), got, c.want)
		}
	}
	if b := encoded(t, 1); len(b) != 9 {
		t.Errorf("Encode(1): %d bytes", len(b))
	}
}

// P3.1: of each kind, and of each length about the edges: the length with its lowest byte first, the kind, the payload, the sum.
func TestEncodeAndDecode(t *testing.T) {
	for _, n := range []int{0, 1, 2, 3, 4, 8, 9, 10, 254, 255, 256, 257, 511, 512, 4096, 0x1234, 8190, 8191, 8192} {
		payload := sample(n, uint32(n))
		for kind := 1; kind <= 9; kind++ {
			b := encoded(t, kind, payload)
			if len(b) != n+9 || !bytes.Equal(b[:5], []byte{byte(n), byte(n >> 8), 0, 0, byte(kind)}) || !bytes.Equal(b, bytesOf(kind, payload)) {
				t.Errorf("Encode(%d, %d bytes): %d bytes, % x at first", kind, n, len(b), b[:5])
			}
			decodes(t, fmt.Sprintf("kind %d, %d bytes", kind, n), b, kind, payload)
			for _, i := range []int{0, n / 3, n} {
				if !bytes.Equal(encoded(t, kind, payload[:i], nil, payload[i:]), b) {
					t.Errorf("Encode(%d, %d bytes, cut at %d): other bytes", kind, n, i)
				}
			}
		}
	}
}

// P3.1: parts without number, and without a byte.
func TestEncodeManyParts(t *testing.T) {
	payload := sample(api.MaxPayload, 4)
	var parts [][]byte
	for i := range payload {
		parts = append(parts, payload[i:i+1], nil)
	}
	if !bytes.Equal(encoded(t, 5, parts...), bytesOf(5, payload)) {
		t.Error("Encode of 8192 parts of one byte, and as many of none: other bytes")
	}
	if b, e := frame.Encode(5, append(parts, []byte{0})...); e != api.ErrLong || len(b) != 0 {
		t.Errorf("Encode of one byte more: %d bytes, %d", len(b), e)
	}
	if b, e := frame.Encode(5, append([][]byte{{0}}, parts...)...); e != api.ErrLong || len(b) != 0 {
		t.Errorf("Encode of one byte more, ahead: %d bytes, %d", len(b), e)
	}
}

// P3.1: each error of Encode; kinds outside are told ahead of too many bytes; beside an error there are no bytes.
func TestEncodeRefuses(t *testing.T) {
	outside := []int{0, 10, 11, -1, -2, -9, 255, 256, 257, 265, 512 + 1, 1<<16 + 1, 1<<32 + 1, -256 + 1, -1<<32 + 1, math.MinInt, math.MinInt + 1, math.MaxInt}
	lengths := []struct {
		parts [][]byte
		e     api.Errno
	}{
		{nil, api.OK},
		{[][]byte{make([]byte, 8192)}, api.OK},
		{[][]byte{make([]byte, 8193)}, api.ErrLong},
		{[][]byte{make([]byte, 8192), make([]byte, 1)}, api.ErrLong},
		{[][]byte{make([]byte, 1), make([]byte, 8192)}, api.ErrLong},
		{[][]byte{nil, make([]byte, 4096), {}, make([]byte, 4096)}, api.OK},
		{[][]byte{nil, make([]byte, 4096), {}, make([]byte, 4097)}, api.ErrLong},
		{[][]byte{make([]byte, 65536)}, api.ErrLong},
		{[][]byte{make([]byte, 65536+1), make([]byte, 65536)}, api.ErrLong},
		{[][]byte{make([]byte, 8193), nil, nil}, api.ErrLong},
	}
	for i, c := range lengths {
		for kind := 1; kind <= 9; kind++ {
			if b, e := frame.Encode(kind, c.parts...); e != c.e || e != api.OK && len(b) != 0 {
				t.Errorf("Encode(%d, parts %d): %d bytes, %d; want %d", kind, i, len(b), e, c.e)
			}
		}
		for _, kind := range outside {
			if b, e := frame.Encode(kind, c.parts...); e != api.ErrRange || len(b) != 0 {
				t.Errorf("Encode(%d, parts %d): %d bytes, %d; want ErrRange", kind, i, len(b), e)
			}
		}
	}
}

// P3.1: bytes that are too few, or more or fewer than their length says; one near 2^32 too.
func TestDecodeForm(t *testing.T) {
	for n := range 9 {
		refuses(t, fmt.Sprintf("%d bytes of a frame", n), bytesOf(1, nil)[:n], api.ErrForm)
		refuses(t, fmt.Sprintf("%d zeros", n), make([]byte, n), api.ErrForm)
		// What added to 9 is n, in 32 bits.
		refuses(t, fmt.Sprintf("%d bytes", n), append(binary.LittleEndian.AppendUint32(nil, uint32(n)-9), 1, 2, 3, 4, 5)[:n], api.ErrForm)
	}
	refuses(t, "nil", nil, api.ErrForm)
	for _, n := range []int{0, 1, 3, 300, 8192} {
		b := bytesOf(4, sample(n, 1))
		for cut := range min(len(b), 400) {
			refuses(t, fmt.Sprintf("a frame of %d bytes, cut at %d", n, cut), b[:cut], api.ErrForm)
		}
		refuses(t, "cut by one", b[:len(b)-1], api.ErrForm)
		for _, more := range []int{1, 2, 4, 9, 256, 65536} {
			refuses(t, fmt.Sprintf("%d bytes more", more), append(bytes.Clone(b), make([]byte, more)...), api.ErrForm)
		}
		refuses(t, "a frame behind it", append(bytes.Clone(b), b...), api.ErrForm)
		own := uint32(n)
		for _, length := range []uint32{
			own + 1, own - 1, own + 9, own - 9, own + 256, own + 1<<16, own + 1<<24, own + 1<<31, ^own,
			8193, 1 << 31, math.MaxUint32, math.MaxUint32 - 8, math.MaxUint32 - 9,
		} {
			refuses(t, fmt.Sprintf("%d bytes that say %d", n, length), lengthened(b, length), api.ErrForm)
		}
	}
}

// P3.1: a payload of more than 8192 bytes, the length and the sum right.
func TestDecodeLong(t *testing.T) {
	decodes(t, "8192", bytesOf(1, make([]byte, 8192)), 1, make([]byte, 8192))
	for _, n := range []int{8193, 8194, 9000, 65535, 65536, 65536 + 9, 1 << 20} {
		refuses(t, fmt.Sprint(n), bytesOf(1, make([]byte, n)), api.ErrForm)
	}
}

// P3.1: kinds that are none, the sum right, and each byte of the sum another one.
func TestDecodeRangeAndSum(t *testing.T) {
	for _, n := range []int{0, 1, 100, 8192} {
		payload := sample(n, 8)
		for kind := range 256 {
			b := forged(uint32(n), byte(kind), payload)
			if 1 <= kind && kind <= 9 {
				decodes(t, fmt.Sprint("kind ", kind), b, kind, payload)
				continue
			}
			refuses(t, fmt.Sprint("kind ", kind), b, api.ErrRange)
		}
		b := bytesOf(3, payload)
		for at := n + 5; at < n+9; at++ {
			for x := range 256 {
				if byte(x) != b[at] {
					refuses(t, fmt.Sprintf("the sum's byte %d", at-n-5), changed(b, at, byte(x)), api.ErrSum)
				}
			}
		}
	}
	whole := binary.LittleEndian.AppendUint32([]byte{1, 0, 0, 0, 1, 'x'}, wordSum([]byte{1, 0, 0, 0, 1, 'x'}))
	refuses(t, "a sum of the length too", whole, api.ErrSum)
	alone := binary.LittleEndian.AppendUint32([]byte{1, 0, 0, 0, 1, 'x'}, wordSum([]byte("x")))
	refuses(t, "a sum of the payload alone", alone, api.ErrSum)
	turned := binary.BigEndian.AppendUint32([]byte{1, 0, 0, 0, 1, 'x'}, wordSum([]byte{1, 'x'}))
	refuses(t, "a sum with its highest byte first", turned, api.ErrSum)
}

// P3.1, R2: where two errors fit: ErrForm ahead of ErrRange, ErrRange ahead of ErrSum.
func TestDecodeWhichError(t *testing.T) {
	b := bytesOf(2, []byte("abc"))
	for _, kind := range []byte{0, 10, 255} {
		noKind := changed(b, 4, kind)
		refuses(t, "kind and sum", noKind, api.ErrRange)
		refuses(t, "kind alone", forged(3, kind, []byte("abc")), api.ErrRange)
		refuses(t, "length, kind and sum", lengthened(noKind, 4), api.ErrForm)
		refuses(t, "length and kind", forged(2, kind, []byte("abc")), api.ErrForm)
		refuses(t, "too few, and kind", noKind[:8], api.ErrForm)
		refuses(t, "too long, and kind", bytesOf(int(kind), make([]byte, 8193)), api.ErrForm)
	}
	refuses(t, "length and sum", lengthened(changed(b, 6, 'x'), 2), api.ErrForm)
	refuses(t, "too long, and sum", changed(bytesOf(2, make([]byte, 8193)), 100, 1), api.ErrForm)
	refuses(t, "more bytes, and sum", append(changed(b, 6, 'x'), 0), api.ErrForm)
	refuses(t, "zeros", make([]byte, 9), api.ErrRange)
}

// P3.1: rows that are whole: none, one, many, the longest frames, as many as a file can have.
func TestScan(t *testing.T) {
	fronts(t, "nil", nil, nil, 0)
	fronts(t, "empty", []byte{}, nil, 0)
	frames, b, _ := row()
	fronts(t, "a row", b, frames, len(b))
	fronts(t, "one", bytesOf(1, nil), []frame.Frame{{Kind: 1}}, 9)
	longest := bytesOf(9, sample(8192, 6))
	f := frame.Frame{Kind: 9, Payload: sample(8192, 6)}
	fronts(t, "the longest ones", bytes.Repeat(longest, 7), []frame.Frame{f, f, f, f, f, f, f}, 7*8201)
	many := make([]frame.Frame, api.MaxFile/9)
	for i := range many {
		many[i].Kind = 7
	}
	fronts(t, "the shortest ones", bytes.Repeat(bytesOf(7, nil), len(many)), many, 9*len(many))
}

// P3.2: a row cut off at each place: the front is the frames that stand whole ahead of it.
func TestScanCut(t *testing.T) {
	frames, b, ends := row()
	for cut := range len(b) + 1 {
		n, whole := 0, 0
		for _, end := range ends {
			if end <= cut {
				n, whole = end, whole+1
			}
		}
		fronts(t, fmt.Sprint("cut at ", cut), b[:cut], frames[:whole], n)
	}
}

// P3.2: the same of frames' bytes as Encode answers them, and of payloads that are rows themselves.
func TestScanCutOfEncoded(t *testing.T) {
	_, inner, _ := row()
	parts := [][]byte{encoded(t, 1, inner), encoded(t, 9, inner, inner), encoded(t, 5), encoded(t, 2, encoded(t, 3, encoded(t, 4, []byte("x"))))}
	b := bytes.Join(parts, nil)
	frames := []frame.Frame{{Kind: 1, Payload: inner}, {Kind: 9, Payload: append(bytes.Clone(inner), inner...)}, {Kind: 5}, {Kind: 2, Payload: encoded(t, 3, encoded(t, 4, []byte("x")))}}
	end, whole := 0, 0
	for cut := range len(b) + 1 {
		for whole < len(parts) && end+len(parts[whole]) <= cut {
			end += len(parts[whole])
			whole++
		}
		fronts(t, fmt.Sprint("cut at ", cut), b[:cut], frames[:whole], end)
	}
}

// P3.1, P3.2: whole frames behind something that is none don't count.
func TestScanStops(t *testing.T) {
	frames, b, _ := row()
	good := bytesOf(3, []byte("abc"))
	for what, none := range map[string][]byte{
		"a zero":                 {0},
		"nine zeros":             make([]byte, 9),
		"many zeros":             make([]byte, 1000),
		"ones":                   bytes.Repeat([]byte{255}, 30),
		"kind 0":                 forged(3, 0, []byte("abc")),
		"kind 10":                forged(3, 10, []byte("abc")),
		"kind 255":               forged(0, 255, nil),
		"another sum":            changed(good, len(good)-1, good[len(good)-1]+1),
		"another payload":        changed(good, 6, 'x'),
		"another kind":           changed(good, 4, 4),
		"a length of one less":   forged(2, 3, []byte("abc")),
		"a length of one more":   forged(4, 3, []byte("abc")),
		"a length of 2^32 - 1":   lengthened(good, math.MaxUint32),
		"a length of 2^32 - 9":   lengthened(good, math.MaxUint32-8),
		"a length of 2^32 - 10":  lengthened(good, math.MaxUint32-9),
		"a length of 2^31":       lengthened(good, 1<<31),
		"a length of 2^24 and 3": lengthened(good, 1<<24+3),
		"a payload too long":     bytesOf(1, make([]byte, 8193)),
		"one far too long":       bytesOf(1, make([]byte, 65536+3)),
		"a frame cut by one":     good[:len(good)-1],
		"a frame without head":   good[1:],
		"a length that fits all": lengthened(good, uint32(len(good)-9+len(b)+9)),
	} {
		fronts(t, what, none, nil, 0)
		fronts(t, what+", a row behind", append(bytes.Clone(none), b...), nil, 0)
		fronts(t, what+", a row ahead", append(bytes.Clone(b), none...), frames, len(b))
		both := append(append(bytes.Clone(b), none...), b...)
		fronts(t, what+", between rows", append(both, make([]byte, 9)...), frames, len(b))
	}
}

// P3.3: each byte of kind and payload, each other one in its place.
func TestChangedByteIsNotDecoded(t *testing.T) {
	for _, n := range []int{0, 1, 3, 60} {
		for _, kind := range []int{1, 5, 9} {
			everyChange(t, bytesOf(kind, sample(n, uint32(kind))))
			everyChange(t, bytesOf(kind, make([]byte, n)))
		}
	}
	b := encoded(t, 7, sample(8192, 5))
	for at := 4; at < len(b)-4; at++ {
		for _, bit := range []byte{1, 128, 255} {
			if f, e := frame.Decode(changed(b, at, b[at]^bit)); e == api.OK || f.Kind != 0 || f.Payload != nil {
				t.Fatalf("8192 bytes, the one at %d turned by %d: kind %d, %d", at, bit, f.Kind, e)
			}
		}
	}
}

// everyChange: whether Decode and Scan refuse b with any byte of its kind and payload changed.
func everyChange(t *testing.T, b []byte) {
	t.Helper()
	ahead := bytesOf(1, []byte("ahead"))
	for at := 4; at < len(b)-4; at++ {
		for x := range 256 {
			if byte(x) == b[at] {
				continue
			}
			want := api.ErrSum
			if at == 4 && (x < 1 || x > 9) {
				want = api.ErrRange
			}
			other := changed(b, at, byte(x))
			refuses(t, fmt.Sprintf("%d at %d", x, at), other, want)
			fronts(t, fmt.Sprintf("%d at %d", x, at), append(bytes.Clone(ahead), other...), []frame.Frame{{Kind: 1, Payload: []byte("ahead")}}, len(ahead))
		}
	}
}

// P3.4: what is handed in stays, what lies about it and spare room included.
func TestHandedInStays(t *testing.T) {
	_, whole, ends := row()
	whole = append(whole, sample(300, 2)...)
	was := bytes.Clone(whole)
	parts := make([][]byte, 3, 6)
	parts[0], parts[2] = whole[10:20], whole[5:5]
	spare := parts[:6]
	spare[4] = whole[:7]
	frame.Sum(parts...)
	frame.Encode(1, parts...)
	frame.Encode(0, parts...)
	for end := range 500 {
		frame.Decode(whole[:end])
		frame.Scan(whole[:end])
	}
	for i, end := range ends {
		from := 0
		if i > 0 {
			from = ends[i-1]
		}
		if _, e := frame.Decode(whole[from:end]); e != api.OK {
			t.Errorf("Decode of frame %d: %d", i, e)
		}
	}
	if !bytes.Equal(whole, was) {
		t.Error("bytes that were handed in, or what lies about them, changed")
	}
	if len(parts[0]) != 10 || &parts[0][0] != &whole[10] || parts[1] != nil || len(parts[2]) != 0 || spare[3] != nil || len(spare[4]) != 7 || spare[5] != nil {
		t.Error("the list of parts changed")
	}
}

// P3.4, R6: bytes that Encode answered are one's own, spare room too.
func TestEncodedIsNew(t *testing.T) {
	payload := sample(40, 1)
	for _, parts := range [][][]byte{nil, {payload}, {payload[:10], payload[10:]}, {nil, payload}} {
		a, b := encoded(t, 4, parts...), encoded(t, 4, parts...)
		was := bytes.Clone(b)
		clear(a[:cap(a)])
		if !bytes.Equal(b, was) || !bytes.Equal(payload, sample(40, 1)) {
			t.Errorf("%d parts: an answer shares memory with another, or with its part", len(parts))
		}
	}
	b := encoded(t, 4, payload)
	clear(payload)
	decodes(t, "the part cleared", b, 4, sample(40, 1))
}

// P3.4, R6: a frame that Decode answered is one's own, spare room too.
func TestDecodedIsNew(t *testing.T) {
	for _, n := range []int{0, 1, 40, 8192} {
		b := bytesOf(6, sample(n, 9))
		was := bytes.Clone(b)
		f, _ := frame.Decode(b)
		other, _ := frame.Decode(b)
		clear(f.Payload[:cap(f.Payload)])
		if !bytes.Equal(b, was) || !bytes.Equal(other.Payload, sample(n, 9)) {
			t.Errorf("%d bytes: a payload shares memory with the bytes, or with another answer", n)
		}
		clear(b)
		if !bytes.Equal(other.Payload, sample(n, 9)) {
			t.Errorf("%d bytes: a payload shares memory with the bytes", n)
		}
	}
}

// P3.4, R6: frames that Scan answered are one's own, list and payloads, spare room too.
func TestScannedIsNew(t *testing.T) {
	frames, b, _ := row()
	was := bytes.Clone(b)
	l, _ := frame.Scan(b)
	other, _ := frame.Scan(b)
	for i := range l {
		p := l[i].Payload
		clear(p[:cap(p)])
		for j := i + 1; j < len(l); j++ {
			if !same(l[j], frames[j]) {
				t.Errorf("payloads %d and %d share memory", i, j)
			}
		}
	}
	clear(l[:cap(l)])
	if !bytes.Equal(b, was) || !slices.EqualFunc(other, frames, same) {
		t.Error("a list shares memory with the bytes, or with another answer")
	}
	clear(b)
	if !slices.EqualFunc(other, frames, same) {
		t.Error("a payload shares memory with the bytes")
	}
}

// R8: the same again, whatever was asked in between, and from many sides at once.
func TestNothingIsKept(t *testing.T) {
	frames, b, _ := row()
	want := wordSum(b)
	for i := range 20 {
		frame.Sum(sample(i, uint32(i)))
		frame.Encode(i, sample(i, uint32(i)))
		frame.Decode(b[i:])
		frame.Scan(b[i:])
		if frame.Sum(b) != want {
			t.Fatal("Sum answers another number the next time")
		}
		fronts(t, "again", b, frames, len(b))
	}
	done := make(chan bool)
	for range 8 {
		go func() {
			l, n := frame.Scan(b)
			done <- frame.Sum(b) == want && n == len(b) && slices.EqualFunc(l, frames, same)
		}()
	}
	for range 8 {
		if !<-done {
			t.Error("another answer, asked from many sides at once")
		}
	}
}

// wordDecode: what Decode has to answer, step by step as the document's words have it.
func wordDecode(b []byte) (int, []byte, api.Errno) {
	if len(b) < 9 {
		return 0, nil, api.ErrForm
	}
	n := int(binary.LittleEndian.Uint32(b))
	if n != len(b)-9 || n > 8192 {
		return 0, nil, api.ErrForm
	}
	if b[4] < 1 || b[4] > 9 {
		return 0, nil, api.ErrRange
	}
	if binary.LittleEndian.Uint32(b[n+5:]) != wordSum(b[4:n+5]) {
		return 0, nil, api.ErrSum
	}
	return int(b[4]), b[5 : n+5], api.OK
}

// P3.1, P6: rows of frames, sound and not, and of bytes of any sort: Decode by the words, and the front the longest one.
func TestAgainstWords(t *testing.T) {
	for seed := range uint32(3000) {
		r := sample(12, seed)
		var b []byte
		for i := range 2 + r[0]%3 {
			one := bytesOf(int(r[1+i]%12), sample(int(r[4+i]%20), seed))
			if r[8]%2 == 0 {
				one[int(r[9])%len(one)] ^= r[10] & 3
			}
			b = append(b, one[:len(one)-int(r[11]/250)]...)
		}
		if seed%5 == 0 {
			b = append(b, sample(int(seed%60), seed)...)
		}
		var want []frame.Frame
		n := 0
		for next := n + 9; next <= len(b); next++ {
			if kind, payload, e := wordDecode(b[n:next]); e == api.OK {
				want = append(want, frame.Frame{Kind: kind, Payload: payload})
				n, next = next, next+8
			}
		}
		fronts(t, fmt.Sprintf("% x", b), b, want, n)
		for end := range len(b) + 1 {
			kind, payload, e := wordDecode(b[:end])
			f, got := frame.Decode(b[:end])
			if got != e || f.Kind != kind || !bytes.Equal(f.Payload, payload) {
				t.Errorf("Decode of % x: kind %d, %d; want kind %d, %d", b[:end], f.Kind, got, kind, e)
			}
		}
	}
}

func BenchmarkScan(b *testing.B) {
	l := bytes.Repeat(bytesOf(1, nil), api.MaxFile/9)
	for b.Loop() {
		frame.Scan(l)
	}
}
