// Package digest is layer 1: SHA-256: see shared/doc/01-digest.md.
package digest

import "rubric/api"

const digits = "0123456789abcdef"

// Sum: the digest of b.
func Sum(b []byte) api.Key { return Joined(b) }

// Joined: the digest of all parts, one behind the other.
func Joined(parts ...[]byte) api.Key {
	s := begin()
	for _, p := range parts {
		s.add(p)
	}
	return s.end()
}

// Text: the text of a digest.
func Text(k api.Key) string {
	text := make([]byte, 0, 2*len(k))
	for _, b := range k {
		text = append(text, digits[b>>4], digits[b&15])
	}
	return string(text)
}

// Parse: the digest of a text; ErrForm, if it is no digest's.
func Parse(s string) (api.Key, api.Errno) {
	var k api.Key
	if len(s) != 2*len(k) {
		return api.Key{}, api.ErrForm
	}
	for i := range k {
		high, isHigh := digit(s[2*i])
		low, isLow := digit(s[2*i+1])
		if !isHigh || !isLow {
			return api.Key{}, api.ErrForm
		}
		k[i] = high<<4 | low
	}
	return k, api.OK
}

// Less: whether a is ahead of b, byte by byte.
func Less(a, b api.Key) bool {
	for i, x := range a {
		if x != b[i] {
			return x < b[i]
		}
	}
	return false
}

// digit: the four bits that a digit of a text stands for, and whether it is one.
func digit(c byte) (byte, bool) {
	switch {
	case '0' <= c && c <= '9':
		return c - '0', true
	case 'a' <= c && c <= 'f':
		return c - 'a' + 10, true
	}
	return 0, false
}
