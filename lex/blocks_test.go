package lex_test

import (
	"strings"
	"testing"
)

// block: whether the block string of each text means what is told behind it.
func block(t *testing.T, pairs ...string) {
	t.Helper()
	for i := 0; i < len(pairs); i += 2 {
		means(t, `"""`+pairs[i]+`"""`, pairs[i+1])
	}
}

// P7.1: block strings of a line.
func TestBlocks(t *testing.T) {
	block(t, "", "", " ", "", "\t \t", "", "a", "a", "a b", "a b", " a", " a", "a ", "a ", "\ta\t", "\ta\t", "#,{", "#,{", `\n`, `\n`, `\u0041`, `\u0041`, `\ `, `\ `, `a\b`, `a\b`, `\\ `, `\\ `, `\ud800`, `\ud800`, `\x`, `\x`, "\u007f", "\u007f",
		"\u0080\u20ac\ufeff\ufffd\uffff\U0001f600\U0010ffff", "\u0080\u20ac\ufeff\ufffd\uffff\U0001f600\U0010ffff", "\u00a0", "\u00a0", "\u3000 \u2003", "\u3000 \u2003", "\u0085", "\u0085", "\u2028", "\u2028", "a\u2029b", "a\u2029b")
}

// P7.1: quotes within: one, two, and three with \ ahead.
func TestQuotesInBlocks(t *testing.T) {
	block(t, `"a`, `"a`, `""a`, `""a`, `a"b`, `a"b`, `a""b`, `a""b`, `a\"b`, `a\"b`, `a\""b`, `a\""b`, `\"""`, `"""`, `a\"""b`, `a"""b`, `\"""\"""`, `""""""`, `\\"""`, `\"""`, `\\\"""`, `\\"""`, `\""""b`, `""""b`, `\"""""b`, `"""""b`, `"\"""`, `""""`, `""\"""`, `"""""`,
		`\""" `, `""" `, `\"""\n`, `"""\n`, `\"" `, `\"" `, ` "`+" ", ` "`+" ", `a" "" b`, `a" "" b`, `\"\""x`, `\"\""x`, `\"\"""`, `\""""`)
	is(t, `"""a""""""b"""`, `string"a"@0 string"b"@7 end@14`, `""""""`, `string""@0 end@6`, `"""a"""""`, `string"a"@0 string""@7 end@9`, `""""""""`, `string""@0 string""@6 end@8`, `"""""" """"""`, `string""@0 string""@7 end@13`, `"""a""" "b"`, `string"a"@0 string"b"@8 end@11`,
		`"""a""""b"`, `string"a"@0 string"b"@7 end@10`, `""""""""""""`, `string""@0 string""@6 end@12`)
	fails(t, 7, `"""a""""`, `"""a""""""b`, `"""a""""""`, `"""a"""?`)
	fails(t, 6, `"""""""`, `"""""""""`, `""""""""""`, `"""""""""""`)
}

// P7.1: block strings without an end; what may not stand in them.
func TestBrokenBlocks(t *testing.T) {
	broken(t, `"""\"""`, `"""\\"""`, `"""a\"""\"""`, "\"\"\"\n\\\"\"\"", `"""`, `""""`, `"""""`, `"""a`, `"""a"`, `"""a""`, `"""\"""`, `"""a\"""`, `"""\"""""`, `"""\"""\"""`, `"""\\"""`, `"""\\\"""`, `"""a" ""`, `"""a"" "`, "\"\"\"a\n", "\"\"\"\r\n", "\"\"\"a\n\"\"\n\"", `"""a\""`, `"""\`, `"""a"b"c"`)
	for c := rune(0); c < ' '; c++ {
		if !strings.ContainsRune("\t\n\r", c) {
			broken(t, `"""`+string(c)+`"""`, `"""a`+string(c)+`b"""`, "\"\"\"\n"+string(c)+"\n\"\"\"", `"""a\"""`+string(c)+`"""`, `"""`+string(c), `"""\`+string(c)+`"""`)
		}
	}
	for _, s := range notUTF8() {
		broken(t, `"""`+s+`"""`, `"""a`+s+`b"""`, "\"\"\"\n"+s+"\n\"\"\"", `"""`+s, `"""\`+s+`"""`)
	}
}

// P7.1: the three kinds of line ends.
func TestLineEnds(t *testing.T) {
	block(t, "a\nb", "a\nb", "a\rb", "a\nb", "a\r\nb", "a\nb", "a\n\nb", "a\n\nb", "a\r\rb", "a\n\nb", "a\r\n\r\nb", "a\n\nb", "a\n\rb", "a\n\nb", "a\r\r\nb", "a\n\nb", "a\n\r\nb", "a\n\nb", "a\r\n\rb", "a\n\nb", "a\r\n\nb", "a\n\nb", "a\n\r\n\rb", "a\n\n\nb", "a\r\n\n\rb", "a\n\n\nb",
		"\na\n", "a", "\ra\r", "a", "\r\na\r\n", "a", "\n", "", "\r", "", "\r\n", "", "\n\n\r\r\n", "", "a\n", "a", "\nb", "b", "a\\nb\nc", "a\\nb\nc", "a\n  b\r  c\r\n  d", "a\nb\nc\nd")
}

// P7.1: the common indent.
func TestIndent(t *testing.T) {
	block(t,
		"\n    Hello,\n      World!\n\n    Yours,\n      GraphQL.\n  ", "Hello,\n  World!\n\nYours,\n  GraphQL.",
		"a\n  b", "a\nb", "a\n  b\n c", "a\n b\nc", "a\n b\n  c", "a\nb\n c", "a\n  b\n  c", "a\nb\nc", "a\n  b\nc", "a\n  b\nc", "a\nb\n  c", "a\nb\n  c", "a\n   b\n  c\n    d", "a\n b\nc\n  d",
		"  a\n  b", "  a\nb", " a\n   b\n  c", " a\n b\nc", "\ta\n\tb", "\ta\nb", "    a\n b", "    a\nb", "\n  a\n b", " a\nb", " \n  a", "a", // the first line doesn't count, and loses nothing
		"\n\ta", "a", "\n\t\ta\n\tb", "\ta\nb", "\n \ta\n\t b", "a\nb", "\n\ta\n  b", "a\n b", "\n  a\n\tb", " a\nb", "\n \t a\n  b", " a\nb", // blanks of both kinds count the same
		"a\n  b \t\n  c ", "a\nb \t\nc ", "\n  a  b", "a  b", "\n  a\n   b\n  ", "a\n b", // blanks elsewhere stay
		"a\n\u00a0 b\n \u00a0c", "a\n\u00a0 b\n \u00a0c", "a\n \u3000b\n  c", "a\n\u3000b\n c", "a\n  \u2003b", "a\n\u2003b", "\n  \ufeffa\n   b", "\ufeffa\n b", // other blanks are something else
		"a\n  \\\"\"\"b\n   c", "a\n\"\"\"b\n c", "\n  \\\"\"\"\n  \\\"\"\"x", "\"\"\"\n\"\"\"x", "a\n  \"b\n   c", "a\n\"b\n c", "\n    \u20ac\n   \U0001f600", " \u20ac\n\U0001f600", "a\n  b\n  ,", "a\nb\n,", "a\n  b\n #", "a\n b\n#",
	)
}

// P7.1: lines of blanks alone: at the beginning, in the middle, at the end, everywhere.
func TestBlankLines(t *testing.T) {
	block(t,
		"\n\n\na", "a", "  \n\t\n a", "a", "a\n\n\n", "a", "a\n  \n\t", "a", "\n \na\n \n", "a", "  \n  a", "a", " \n\n  a\n\n ", "a", "\t\na", "a", "a \n ", "a ", " a\n ", " a", " a \n\n", " a ",
		"a\n\nb", "a\n\nb", "a\n \nb", "a\n \nb", "a\n\t\nb", "a\n\t\nb", "a\n  \n  b", "a\n\nb", "a\n   \n  b", "a\n \nb", "a\n \n  b", "a\n\nb", "a\n\n  b", "a\n\nb", "a\n    \n  b\n   c", "a\n  \nb\n c", "\n  a\n \t \t\n  b\n", "a\n \t\nb", "\n  a\n\t\n\n \n  b", "a\n\n\n\nb",
		"a\n \n\n b\n ", "a\n\n\nb", "\n  a\n \n", "a", "\n    a\n \n  b\n   \n    ", "  a\n\nb", "  \n\n\t\t\r ", "", " \n ", "", "\n \n  \n   ", "", "a\n \n  \n   ", "a", "a\n\n\n\nb\n\n", "a\n\n\n\nb", " \n \n  a\n\n  \n  b\n \n", "a\n\n\nb",
	)
}
