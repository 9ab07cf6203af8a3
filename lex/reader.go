package lex

import (
	"slices"
	"strings"
	"unicode/utf8"
)

// reader: a text, and the place of what hasn't been read.
type reader struct {
	text string
	at   int
}

// over: whether all has been read.
func (r *reader) over() bool { return r.at == len(r.text) }

// rest: what hasn't been read.
func (r *reader) rest() string { return r.text[r.at:] }

// is: whether there is a byte next, and it is what it must be.
func (r *reader) is(must func(byte) bool) bool {
	return !r.over() && must(r.text[r.at])
}

// one: reads the next byte, if it is what it must be.
func (r *reader) one(must func(byte) bool) bool {
	if !r.is(must) {
		return false
	}
	r.at++
	return true
}

// some: reads bytes as long as they are what they must be; whether there was any.
func (r *reader) some(must func(byte) bool) bool {
	from := r.at
	for r.one(must) {
	}
	return r.at > from
}

// word: reads s, if it is next.
func (r *reader) word(s string) bool {
	if !strings.HasPrefix(r.rest(), s) {
		return false
	}
	r.at += len(s)
	return true
}

// rune: reads the next rune, if there is one that may stand in a text: none below U+0020 may, but 9 and those that are named.
func (r *reader) rune(more ...rune) (rune, bool) {
	c, size := utf8.DecodeRuneInString(r.rest())
	if c == utf8.RuneError && size < utf8.RuneLen(c) { // at the end, or what isn't UTF-8; U+FFFD itself has three bytes
		return 0, false
	}
	if c < ' ' && c != '\t' && !slices.Contains(more, c) {
		return 0, false
	}
	r.at += size
	return c, true
}

func digit(c byte) bool { return '0' <= c && c <= '9' }

// letter: of a name, with _ among them.
func letter(c byte) bool {
	return 'a' <= c && c <= 'z' || 'A' <= c && c <= 'Z' || c == '_'
}

// oneOf: a function that tells whether a byte is in s.
func oneOf(s string) func(byte) bool {
	return func(c byte) bool { return strings.IndexByte(s, c) >= 0 }
}

// either: a function that tells whether a byte is what one of the given functions tells.
func either(musts ...func(byte) bool) func(byte) bool {
	return func(c byte) bool {
		return slices.ContainsFunc(musts, func(must func(byte) bool) bool { return must(c) })
	}
}
