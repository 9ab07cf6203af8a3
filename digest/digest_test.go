package digest_test

import (
	"bytes"
	"crypto/sha256"
	"strings"
	"testing"

	"rubric/api"
	"rubric/digest"
)

// sample: n bytes of all sorts, the same ones each time; another seed gives other ones.
func sample(n int, seed uint32) []byte {
	b := make([]byte, n)
	for i := range b {
		seed = seed*1664525 + 1013904223
		b[i] = byte(seed >> 24)
	}
	return b
}

// keys: some that differ early, late, by high bits and by low ones.
func keys() []api.Key {
	l := []api.Key{{}, {1}, {0, 1}, {0, 255}, {127}, {128}, {255}, {255, 254}}
	for i := range len(api.Key{}) {
		for _, b := range []byte{1, 127, 128, 255} {
			var k api.Key
			k[i] = b
			l = append(l, k)
		}
		l = append(l, api.Key(sample(len(api.Key{}), uint32(i))))
	}
	var all api.Key
	for i := range all {
		all[i] = 255
	}
	return append(l, all)
}

// P1.1: the document's examples, and those of FIPS 180-4.
func TestKnownDigests(t *testing.T) {
	for _, c := range []struct{ in, want string }{
		{"", "e3b0c44298fc1c149afbf4c8996fb92427ae41e4649b934ca495991b7852b855"},
		{"abc", "ba7816bf8f01cfea414140de5dae2223b00361a396177a9cb410ff61f20015ad"},
		{"abcdbcdecdefdefgefghfghighijhijkijkljklmklmnlmnomnopnopq", "248d6a61d20638b8e5c026930c3e6039a33ce45964ff2167f6ecedd419db06c1"},
		{"abcdefghbcdefghicdefghijdefghijkefghijklfghijklmghijklmnhijklmnoijklmnopjklmnopqklmnopqrlmnopqrsmnopqrstnopqrstu", "cf5b16a778af8380036ce59e7b0492370b249b11e8f07a51afac45037afee9d1"},
		{strings.Repeat("a", 1000000), "cdc76e5c9914fb9281a1c7e284d73e67f1809a48a497200e046d39ccc7112cd0"},
	} {
		got := digest.Text(digest.Sum([]byte(c.in)))
		if got != c.want {
			t.Errorf("Sum of %d bytes: %s, want %s", len(c.in), got, c.want)
		}
	}
}

// P1.1: every length up to some blocks, and those about the ends of later ones.
func TestSumAtAllLengths(t *testing.T) {
	lengths := []int{511, 512, 513, 4096, 65535, 65536, 1<<16 + 55, 1<<21 + 56}
	for n := range 330 {
		lengths = append(lengths, n)
	}
	for _, n := range lengths {
		for seed := range uint32(3) {
			b := sample(n, seed)
			if digest.Sum(b) != api.Key(sha256.Sum256(b)) {
				t.Errorf("Sum of %d bytes, seed %d: another digest", n, seed)
			}
		}
	}
	for _, b := range []byte{0, 0x80, 255} {
		for n := range 200 {
			l := bytes.Repeat([]byte{b}, n)
			if digest.Sum(l) != api.Key(sha256.Sum256(l)) {
				t.Errorf("Sum of %d bytes of %d: another digest", n, b)
			}
		}
	}
}

// P1.1: parts, none, empty, nil, and cut anywhere.
func TestJoined(t *testing.T) {
	none := digest.Sum(nil)
	for _, parts := range [][][]byte{nil, {}, {nil}, {{}}, {nil, {}, nil}} {
		if digest.Joined(parts...) != none {
			t.Errorf("Joined of %d empty parts isn't the digest of none", len(parts))
		}
	}
	if digest.Joined() != none || digest.Sum([]byte{}) != none {
		t.Error("Joined of no part, or Sum of an empty one, isn't the digest of none")
	}
	for _, n := range []int{1, 55, 56, 63, 64, 65, 119, 128, 150} {
		b := sample(n, 7)
		want := api.Key(sha256.Sum256(b))
		for i := range n + 1 {
			if digest.Joined(b[:i], b[i:]) != want || digest.Joined(nil, b[:i], []byte{}, b[i:], nil) != want {
				t.Errorf("Joined of %d bytes, cut at %d: another digest", n, i)
			}
		}
		var single [][]byte
		for i := range b {
			single = append(single, b[i:i+1])
		}
		if digest.Joined(single...) != want || digest.Joined(b) != want {
			t.Errorf("Joined of %d bytes, one by one, or whole: another digest", n)
		}
	}
}

// P1.1: parts of many lengths, and their order.
func TestJoinedOfManyParts(t *testing.T) {
	var parts [][]byte
	var all []byte
	for i := range 140 {
		parts = append(parts, sample(i, uint32(i)))
		all = append(all, parts[i]...)
	}
	if digest.Joined(parts...) != api.Key(sha256.Sum256(all)) {
		t.Error("Joined of parts of 0 to 139 bytes: another digest")
	}
	if digest.Joined([]byte("b"), []byte("a")) != digest.Sum([]byte("ba")) {
		t.Error("Joined: the parts aren't in their order")
	}
}

// P1.1: so many bytes that their number in bits has more than 32 of its own.
func TestJoinedOfVeryManyBytes(t *testing.T) {
	if testing.Short() {
		t.Skip("goes through half a gigabyte")
	}
	part := sample(1<<20, 2)
	want := sha256.New()
	var parts [][]byte
	for range 1 << 9 {
		want.Write(part)
		parts = append(parts, part)
	}
	want.Write(part[:5])
	parts = append(parts, part[:5])
	if digest.Joined(parts...) != api.Key(want.Sum(nil)) {
		t.Error("Joined of 2^29 + 5 bytes: another digest")
	}
}

// P1.1: a digest's text: two digits a byte, the higher four bits first.
func TestText(t *testing.T) {
	k := api.Key{0x01, 0x23, 0x45, 0x67, 0x89, 0xab, 0xcd, 0xef, 0x10, 0xf0, 0x0f}
	k[31] = 0xfe
	if got, want := digest.Text(k), "0123456789abcdef10f00f"+strings.Repeat("0", 40)+"fe"; got != want {
		t.Errorf("Text: %s, want %s", got, want)
	}
	if got := digest.Text(api.Key{}); got != strings.Repeat("0", 64) {
		t.Errorf("Text of zeros: %s", got)
	}
}

// P1.1: texts that are no digest's.
func TestParseRefuses(t *testing.T) {
	right := digest.Text(digest.Sum([]byte("abc")))
	wrong := []string{
		"", "a", right[:62], right[:63], right + "0", right + "00", right + right, right + "\n", " " + right, right + "\x00",
		right[:63] + " ", "\n" + right[1:], "0x" + right[2:], "-" + right[1:], "+" + right[1:],
		strings.ToUpper(right), strings.Repeat("A", 64), strings.Repeat("F", 64), strings.Repeat("g", 64),
		strings.Repeat("é", 32), right[:62] + "é", strings.Repeat("0", 62) + "٠", strings.Repeat("a", 65536), strings.Repeat("\xff", 64),
	}
	for n := range 200 {
		if n != 64 {
			wrong = append(wrong, strings.Repeat("0", n))
		}
	}
	for _, s := range wrong {
		if k, e := digest.Parse(s); e != api.ErrForm || k != (api.Key{}) {
			t.Errorf("Parse(%.80q) of %d bytes: %x, %d", s, len(s), k, e)
		}
	}
}

// P1.1: each sign at each place: right just where it is a digit of a text, and then what it stands for.
func TestParseEachSign(t *testing.T) {
	const digits = "0123456789abcdef"
	for at := range 64 {
		for c := range 256 {
			b := bytes.Repeat([]byte{'0'}, 64)
			b[at] = byte(c)
			k, e := digest.Parse(string(b))
			var want api.Key
			wantErr := api.ErrForm
			if v := strings.IndexByte(digits, byte(c)); v >= 0 {
				want[at/2] = byte(v) << (4 * (1 - at%2))
				wantErr = api.OK
			}
			if k != want || e != wantErr {
				t.Errorf("Parse with %q at %d: %x, %d", byte(c), at, k, e)
			}
		}
	}
}

// P1.1: the order is that of the bytes, taken as numbers from 0 to 255.
func TestLess(t *testing.T) {
	l := keys()
	for _, a := range l {
		for _, b := range l {
			if got, want := digest.Less(a, b), bytes.Compare(a[:], b[:]) < 0; got != want {
				t.Errorf("Less(%x, %x): %t", a, b, got)
			}
		}
	}
	if !digest.Less(api.Key{0, 9}, api.Key{1}) || !digest.Less(api.Key{127}, api.Key{128}) || digest.Less(api.Key{1}, api.Key{0, 255}) {
		t.Error("Less: the first byte that differs doesn't decide")
	}
}

// P1.2: Text and Parse lead there and back.
func TestTextAndParse(t *testing.T) {
	for _, k := range keys() {
		s := digest.Text(k)
		if back, e := digest.Parse(s); back != k || e != api.OK {
			t.Errorf("Parse(Text(%x)): %x, %d", k, back, e)
		}
	}
	for i := range uint32(50) {
		s := digest.Text(digest.Sum(sample(int(i), i)))
		k, e := digest.Parse(s)
		if e != api.OK || digest.Text(k) != s {
			t.Errorf("Text(Parse(%s)): %s, %d", s, digest.Text(k), e)
		}
	}
}

// P1.2: of two keys that differ just one is less; of one and itself none is; and the order of the texts is the same.
func TestJustOneIsLess(t *testing.T) {
	l := keys()
	for _, a := range l {
		for _, b := range l {
			ab, ba := digest.Less(a, b), digest.Less(b, a)
			if a == b && (ab || ba) || a != b && ab == ba {
				t.Errorf("Less of %x and %x: %t, and %t the other way", a, b, ab, ba)
			}
			if ab != (digest.Text(a) < digest.Text(b)) {
				t.Errorf("Less of %x and %x isn't the order of their texts", a, b)
			}
		}
	}
}

// P1.3: the bytes stay, spare room and what stands ahead of them included; so do the parts.
func TestHandedInStays(t *testing.T) {
	for _, n := range []int{0, 1, 55, 56, 63, 64, 65, 130} {
		whole := sample(n+200, 3)
		was := bytes.Clone(whole)
		b := whole[20 : 20+n]
		parts := make([][]byte, 4, 8)
		parts[0], parts[1], parts[3] = b, b[:n/2], whole[:10]
		spare := parts[:8]
		spare[5] = whole[5:6]
		digest.Sum(b)
		digest.Joined(parts...)
		if !bytes.Equal(whole, was) {
			t.Errorf("of %d bytes: what was handed in, or what is about it, changed", n)
		}
		if len(parts[0]) != n || len(parts[1]) != n/2 || parts[2] != nil || len(parts[3]) != 10 || len(spare[5]) != 1 || spare[4] != nil {
			t.Errorf("of %d bytes: the list of parts changed", n)
		}
	}
	k := digest.Sum([]byte("k"))
	was := k
	digest.Text(k)
	digest.Less(k, api.Key{})
	if k != was {
		t.Error("a key changed")
	}
}

// P1.3, R6: an answer stays as it is, whatever becomes of what was handed in, or of another answer.
func TestAnswersAreNew(t *testing.T) {
	b := sample(100, 9)
	k := digest.Sum(b)
	joined := digest.Joined(b[:40], b[40:])
	text := digest.Text(k)
	want := api.Key(sha256.Sum256(b))
	clear(b)
	parsed, _ := digest.Parse(text)
	other, _ := digest.Parse(text)
	other[0]++
	k[0]++
	if joined != want || parsed != want || digest.Text(want) != text {
		t.Error("an answer changed with what was handed in, or with another answer")
	}
}

// R8: the same again, whatever was asked in between.
func TestNothingIsKept(t *testing.T) {
	b := sample(77, 5)
	want := api.Key(sha256.Sum256(b))
	for i := range 20 {
		digest.Sum(sample(i*13, uint32(i)))
		digest.Joined(b[:i], b)
		digest.Parse("no digest's text")
		if digest.Sum(b) != want {
			t.Fatal("Sum answers another digest the next time")
		}
	}
	done := make(chan api.Key)
	for range 8 {
		go func() { done <- digest.Joined(b[:30], b[30:]) }()
	}
	for range 8 {
		if <-done != want {
			t.Error("Joined answers another digest, asked from many sides at once")
		}
	}
}

func BenchmarkSum(b *testing.B) {
	l := sample(1000, 1)
	for b.Loop() {
		digest.Sum(l)
	}
}
