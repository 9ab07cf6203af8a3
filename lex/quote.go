package lex

import (
	"strings"
	"unicode/utf8"

	"rubric/api"
)

// Quote: a string that means s; ErrForm, if s isn't UTF-8.
func Quote(s string) (string, api.Errno) {
	if !utf8.ValidString(s) {
		return "", api.ErrForm
	}
	var b strings.Builder
	b.WriteString(quote)
	for _, c := range s {
		b.WriteString(written(c))
	}
	b.WriteString(quote)
	return b.String(), api.OK
}

// written: the rune as it stands in a string.
func written(c rune) string {
	switch i := strings.IndexRune(escaped, c); {
	case i >= 0:
		return `\` + escapes[i:i+1]
	case c < ' ' || c == '\u007f':
		return `\u00` + hex[c>>4:c>>4+1] + hex[c&15:c&15+1]
	default:
		return string(c)
	}
}
