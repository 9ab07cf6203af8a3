package digest

import (
	"math/bits"

	"rubric/api"
)

const blockSize = 64

// state: what is known of the bytes that were added; block has those that fill no whole block yet.
type state struct {
	hash   [8]uint32
	rounds [64]uint32
	block  [blockSize]byte
	total  uint64
}

// begin: the state ahead of the first byte.
func begin() state {
	var s state
	s.hash, s.rounds = constants()
	return s
}

// add: the bytes of p behind those that were added.
func (s *state) add(p []byte) {
	for len(p) > 0 {
		n := copy(s.block[s.total%blockSize:], p)
		s.total += uint64(n)
		p = p[n:]
		if s.total%blockSize == 0 {
			s.mix()
		}
	}
}

// end: the digest of all bytes that were added.
func (s *state) end() api.Key {
	length := s.total * 8 // told in bits, without the padding: so ahead of it
	s.add([]byte{0x80})
	// The length takes the last eight bytes of a block: the next one's, if this one has no room for it.
	var zeros [blockSize]byte
	s.add(zeros[:(2*blockSize-8-s.total%blockSize)%blockSize])
	high, low := bytesOf(uint32(length>>32)), bytesOf(uint32(length))
	s.add(high[:])
	s.add(low[:])
	var k api.Key
	for i, word := range s.hash {
		b := bytesOf(word)
		copy(k[len(b)*i:], b[:])
	}
	return k
}

// mix: the whole block goes into the hash.
func (s *state) mix() {
	words := schedule(s.block)
	a, b, c, d := s.hash[0], s.hash[1], s.hash[2], s.hash[3]
	e, f, g, h := s.hash[4], s.hash[5], s.hash[6], s.hash[7]
	for i, word := range words {
		first := h + turned(e, 6, 11, 25) + choice(e, f, g) + s.rounds[i] + word
		second := turned(a, 2, 13, 22) + majority(a, b, c)
		a, b, c, d, e, f, g, h = first+second, a, b, c, d+first, e, f, g
	}
	for i, x := range [8]uint32{a, b, c, d, e, f, g, h} {
		s.hash[i] += x
	}
}

// schedule: the words of a block's 64 rounds.
func schedule(block [blockSize]byte) [64]uint32 {
	var w [64]uint32
	for i := range 16 {
		w[i] = wordOf(block[4*i], block[4*i+1], block[4*i+2], block[4*i+3])
	}
	for i := 16; i < len(w); i++ {
		w[i] = moved(w[i-2], 17, 19, 10) + w[i-7] + moved(w[i-15], 7, 18, 3) + w[i-16]
	}
	return w
}

// turned: the exclusive or of x turned to the right by a, by b, and by c bits.
func turned(x uint32, a, b, c int) uint32 {
	return bits.RotateLeft32(x, -a) ^ bits.RotateLeft32(x, -b) ^ bits.RotateLeft32(x, -c)
}

// moved: the exclusive or of x turned to the right by a, and by b bits, and moved to the right by c.
func moved(x uint32, a, b, c int) uint32 {
	return bits.RotateLeft32(x, -a) ^ bits.RotateLeft32(x, -b) ^ x>>c
}

// choice: the bits of y where x has a 1, and those of z elsewhere.
func choice(x, y, z uint32) uint32 { return x&y ^ ^x&z }

// majority: the bits that two at least of the three have.
func majority(x, y, z uint32) uint32 { return x&y ^ x&z ^ y&z }

// wordOf: the word of four bytes, the highest one first.
func wordOf(a, b, c, d byte) uint32 {
	return uint32(a)<<24 | uint32(b)<<16 | uint32(c)<<8 | uint32(d)
}

// bytesOf: the four bytes of a word, the highest one first.
func bytesOf(x uint32) [4]byte {
	return [4]byte{byte(x >> 24), byte(x >> 16), byte(x >> 8), byte(x)}
}
