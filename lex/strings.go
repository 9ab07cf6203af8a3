package lex

import (
	"strings"
	"unicode/utf8"
)

const (
	quote       = `"`
	quotes      = `"""` // of a block string
	quotesInOne = `\"""`
	blanks      = " \t"
	hex         = "0123456789abcdef"
)

// An escape is \ and a letter of escapes, and means the rune of escaped that stands at the same place.
const (
	escapes = `"\bfnrt`
	escaped = "\"\\\b\f\n\r\t"
)

// quoted: reads a string of either kind, and tells what it means.
func (r *reader) quoted() (string, bool) {
	if r.word(quotes) {
		return r.blockString()
	}
	r.word(quote)
	return r.lineString()
}

// lineString: reads a string behind its first quote, and tells what it means.
func (r *reader) lineString() (string, bool) {
	var b strings.Builder
	for !r.word(quote) {
		c, ok := r.rune()
		if ok && c == '\\' {
			c, ok = r.escape()
		}
		if !ok {
			return "", false
		}
		b.WriteRune(c)
	}
	return b.String(), true
}

// escape: reads one behind its \, and tells the rune that it means.
func (r *reader) escape() (rune, bool) {
	c, ok := r.rune()
	switch i := strings.IndexRune(escapes, c); {
	case !ok:
		return 0, false
	case i >= 0:
		return rune(escaped[i]), true
	case c == 'u':
		return r.code()
	default:
		return c, c == '/'
	}
}

// code: reads four digits, and tells the rune whose number they are; there is none, if it is a surrogate's.
func (r *reader) code() (rune, bool) {
	from := r.at
	var code rune
	for range 4 {
		if !r.one(oneOf(hex + "ABCDEF")) {
			return 0, false
		}
	}
	for _, c := range strings.ToLower(r.text[from:r.at]) {
		code = code<<4 + rune(strings.IndexRune(hex, c))
	}
	return code, utf8.ValidRune(code)
}

// blockString: reads a block string behind its first quotes, and tells what it means.
func (r *reader) blockString() (string, bool) {
	var b strings.Builder
	for !r.word(quotes) {
		if r.word(quotesInOne) {
			b.WriteString(quotes)
			continue
		}
		c, ok := r.rune('\n', '\r')
		if !ok {
			return "", false
		}
		b.WriteRune(c)
	}
	return unindented(b.String()), true
}

// unindented: the lines of s without their common indent, and without those of blanks alone at the beginning and at the end.
func unindented(s string) string {
	s = strings.ReplaceAll(s, "\r\n", "\n")
	s = strings.ReplaceAll(s, "\r", "\n")
	lines := strings.Split(s, "\n")
	n := indent(lines[1:])
	for i, line := range lines[1:] {
		lines[i+1] = line[min(n, len(line)):]
	}
	for len(lines) > 0 && blank(lines[0]) {
		lines = lines[1:]
	}
	for len(lines) > 0 && blank(lines[len(lines)-1]) {
		lines = lines[:len(lines)-1]
	}
	return strings.Join(lines, "\n")
}

// indent: the least number of blanks ahead of something else. If no line has something else, it doesn't matter: all of them go.
func indent(lines []string) int {
	least := 0
	found := false
	for _, line := range lines {
		n := len(line) - len(strings.TrimLeft(line, blanks))
		if n < len(line) && (!found || n < least) {
			least, found = n, true
		}
	}
	return least
}

func blank(line string) bool { return strings.Trim(line, blanks) == "" }
