package lex_test

import (
	"fmt"
	"math/rand"
	"strings"
	"testing"
	"unicode/utf8"

	"rubric/api"
	"rubric/lex"
)

// quoted: whether each text is quoted as is told behind it.
func quoted(t *testing.T, pairs ...string) {
	t.Helper()
	for i := 0; i < len(pairs); i += 2 {
		if q, e := lex.Quote(pairs[i]); q != pairs[i+1] || e != api.OK {
			t.Errorf("P7.1: Quote(%.60q): %.60s, %d; wanted %.60s", pairs[i], q, e, pairs[i+1])
		}
	}
}

// P7.1: what is written otherwise, and what as it is.
func TestQuote(t *testing.T) {
	quoted(t, "", `""`, "a", `"a"`, `"`, `"\""`, `\`, `"\\"`, "\x08", `"\b"`, "\x09", `"\t"`, "\x0a", `"\n"`, "\x0c", `"\f"`, "\x0d", `"\r"`, "/", `"/"`, "\x00", `"\u0000"`, "\x01", `"\u0001"`, "\x07", `"\u0007"`, "\x0b", `"\u000b"`, "\x0e", `"\u000e"`, "\x0f", `"\u000f"`,
		"\x10", `"\u0010"`, "\x1a", `"\u001a"`, "\x1b", `"\u001b"`, "\x1f", `"\u001f"`, " ", `" "`, "~", `"~"`, "\x7f", `"\u007f"`, "\u0080", "\"\u0080\"", "\u0085", "\"\u0085\"", "\u00a0", "\"\u00a0\"", "\u00e9", "\"\u00e9\"", "\u20ac", "\"\u20ac\"", "\u2028", "\"\u2028\"", "\ufeff", "\"\ufeff\"", "\ufffd", "\"\ufffd\"",
		"\uffff", "\"\uffff\"", "\U0001f600", "\"\U0001f600\"", "\U0010ffff", "\"\U0010ffff\"", "a\"\\/\b\f\n\r\tb\x01\x7f\u20ac", `"a\"\\/\b\f\n\r\tb\u0001\u007f`+"\u20ac\"", `""`, `"\"\""`, `"""`, `"\"\"\""`, `\n`, `"\\n"`, `\u0041`, `"\\u0041"`, "'", `"'"`, "\n\n", `"\n\n"`, "\r\n", `"\r\n"`, "{#,}", `"{#,}"`, "u", `"u"`, "bfnrt", `"bfnrt"`,
		strings.Repeat("\x02", 100000), `"`+strings.Repeat(`\u0002`, 100000)+`"`)
}

// P7.1: each rune there is.
func TestQuoteEachRune(t *testing.T) {
	otherwise := map[rune]string{'"': `\"`, '\\': `\\`, 8: `\b`, 9: `\t`, 10: `\n`, 12: `\f`, 13: `\r`}
	for c := rune(0); c <= utf8.MaxRune; c++ {
		want := string(c)
		if s, ok := otherwise[c]; ok {
			want = s
		} else if c < 32 || c == 127 {
			want = fmt.Sprintf(`\u%04x`, c)
		}
		if !utf8.ValidRune(c) {
			continue
		}
		if q, e := lex.Quote("a" + string(c) + "b"); q != `"a`+want+`b"` || e != api.OK {
			t.Fatalf("P7.1: Quote of U+%04X: %s, %d", c, q, e)
		}
	}
}

// P7.1: what isn't UTF-8.
func TestQuoteErrors(t *testing.T) {
	for _, s := range notUTF8() {
		for _, s := range []string{s, "a" + s, s + " b", "\"" + s + "\"", "\u20ac" + s, strings.Repeat("x", 5000) + s} {
			if q, e := lex.Quote(s); q != "" || e != api.ErrForm {
				t.Errorf("P7.1: Quote(%.20q): %s, %d; wanted ErrForm", s, q, e)
			}
		}
	}
}

// returns: whether what is quoted of s is one string, which means s.
func returns(t *testing.T, s string) {
	t.Helper()
	q, e := lex.Quote(s)
	if l := lexed(q); e != api.OK || l != fmt.Sprintf("string%q@0 end@%d", s, len(q)) {
		t.Fatalf("P7.3: Quote(%.40q): %.40s, %d; lexed: %.60s", s, q, e, l)
	}
}

// P7.3: each rune there is, in rows.
func TestQuotedMeansIt(t *testing.T) {
	var row strings.Builder
	for c := rune(0); c <= utf8.MaxRune; c++ {
		if c < 0x300 {
			returns(t, string(c))
			returns(t, "a"+string(c))
			returns(t, string(c)+string(c)+"u0041")
		}
		if utf8.ValidRune(c) {
			row.WriteRune(c)
		}
		if row.Len() > 600 || c == utf8.MaxRune {
			returns(t, row.String())
			row.Reset()
		}
	}
}

// P7.3: random texts of what is written otherwise, and the longest.
func TestQuotedMeansItMixed(t *testing.T) {
	r := rand.New(rand.NewSource(73))
	parts := []string{`"`, `""`, `"""`, `\`, `\\`, "/", "\n", "\r", "\t", "\b", "\f", "\x00", "\x1f", "\x7f", "u", "u0041", "n", "a", " ", "\u00e9", "\u20ac", "\ufeff", "\U0001f600", "#", "{"}
	for range 20000 {
		var b strings.Builder
		for range r.Intn(12) {
			b.WriteString(parts[r.Intn(len(parts))])
		}
		returns(t, b.String())
	}
	returns(t, strings.Repeat("x", 4094))
	returns(t, strings.Repeat("\u00e9", 2047))
	returns(t, strings.Repeat("\n", 2047))
	returns(t, strings.Repeat("\x01", 682))
	if q, _ := lex.Quote(strings.Repeat("x", 4095)); lexed(q) != wrong(api.ErrLong, 0) {
		t.Errorf("P7.1: a string that is too long a text: %.60s", lexed(q))
	}
}
