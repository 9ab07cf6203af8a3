package lex_test

import (
	"fmt"
	"strings"
	"testing"
)

// means: whether each text is a string that means what is told behind it: alone, and between other tokens.
func means(t *testing.T, pairs ...string) {
	t.Helper()
	for i := 0; i < len(pairs); i += 2 {
		s, meant := pairs[i], pairs[i+1]
		is(t, s, fmt.Sprintf("string%q@0 end@%d", meant, len(s)), "a:"+s+"b", fmt.Sprintf("name:a@0 :@1 string%q@2 name:b@%d end@%d", meant, len(s)+2, len(s)+3))
	}
}

// broken: whether each text is a string that goes wrong: at its own first byte, alone and behind another token.
func broken(t *testing.T, texts ...string) {
	t.Helper()
	for _, s := range texts {
		fails(t, 0, s)
		fails(t, 2, "! "+s, "a:"+s+"\n")
		fails(t, 3, `"" `+s)
	}
}

// P7.1: strings without escapes.
func TestStrings(t *testing.T) {
	means(t, `""`, "", `" "`, " ", `"a"`, "a", `"a b"`, "a b", `"#,{"`, "#,{", `"'"`, "'", `"/"`, "/", "\"\t\"", "\t", "\"\u007f\"", "\u007f", "\"\u0080\u00e9\u20ac\ufeff\ufffd\ufffe\uffff\U00010000\U0001f600\U0010ffff\"", "\u0080\u00e9\u20ac\ufeff\ufffd\ufffe\uffff\U00010000\U0001f600\U0010ffff",
		"\"\u2028\u2029\u0085\"", "\u2028\u2029\u0085", "\"\ud7ff\ue000\"", "\ud7ff\ue000", `"0123"`, "0123", `"~ !"`, "~ !", `"a'b"`, "a'b")
	is(t, `"a""b"`, `string"a"@0 string"b"@3 end@6`, `"" ""`, `string""@0 string""@3 end@5`, `"a" "" "b"`, `string"a"@0 string""@4 string"b"@7 end@10`, `"a"""`, `string"a"@0 string""@3 end@5`, `"",""`, `string""@0 string""@3 end@5`, `""1`, `string""@0 int:1@2 end@3`)
	fails(t, 3, `"a"?`, `"a""`, `"a"-`)
}

// P7.1: each escape, and its rune.
func TestEscapes(t *testing.T) {
	means(t, `"\""`, `"`, `"\\"`, `\`, `"\/"`, "/", `"\b"`, "\x08", `"\f"`, "\x0c", `"\n"`, "\x0a", `"\r"`, "\x0d", `"\t"`, "\x09", `"\"\""`, `""`, `"\\\\"`, `\\`, `"\\n"`, `\n`, `"\\\n"`, "\\\n", `"\\u0041"`, `\u0041`, `"a\"b"`, `a"b`,
		`"a\nb\tc"`, "a\nb\tc", `"\"\\\/\b\f\n\r\t"`, "\"\\/\b\f\n\r\t", `"/\//"`, "///", `"\\" `, `\`, `"\\\""`, `\"`)
	for c := rune(0); c < 0x300; c++ {
		if !strings.ContainsRune(`"\/bfnrtu`, c) {
			broken(t, `"\`+string(c)+`"`, `"a\`+string(c)+`b"`)
		}
	}
	broken(t, `"\u`, `"\ "`, `"\x41"`, `"\u{41}"`, `"\U0041"`, `"\N"`, `"\B"`, `"\T"`, `"\R"`, `"\F"`, `"\'"`, `"\0"`, `"\v"`, `"\a"`, `"\`+"\u20ac"+`"`, "\"\\\n\"", "\"\\\r\"", "\"\\\x80\"", `"\`, `"a\`, `"\"`, `"\\\"`, `"\ufffg"`, "\"\\\ufffd\"")
}

// P7.1: u and four digits of both cases; fewer; those of a surrogate.
func TestCodes(t *testing.T) {
	means(t, `"\u0041"`, "A", `"\u00e9"`, "\u00e9", `"\u00E9"`, "\u00e9", `"\u20aC"`, "\u20ac", `"\u20Ac"`, "\u20ac", `"\u0000"`, "\x00", `"\u0009"`, "\t", `"\u000A"`, "\n", `"\u000d"`, "\r", `"\u001f"`, "\x1f", `"\u0022"`, `"`, `"\u005c"`, `\`, `"\u005Cn"`, `\n`, `"\u007f"`, "\x7f",
		`"\ud7ff"`, "\ud7ff", `"\uD7FF"`, "\ud7ff", `"\ue000"`, "\ue000", `"\uE000"`, "\ue000", `"\ufeff"`, "\ufeff", `"\uFFFD"`, "\ufffd", `"\uffff"`, "\uffff", `"\uFFFE"`, "\ufffe", `"\u00411"`, "A1", `"\u0041f"`, "Af", `"\u0041\u0042"`, "AB", `"\\u00"`, `\u00`, `"a\u0062c"`, "abc",
		`"\uabcd\uefAB\uCDEF"`, "\uabcd\uefab\ucdef", `"\u1234\u5678\u90ab"`, "\u1234\u5678\u90ab")
	for c := 0; c < 0x10000; c += 0x3b {
		if c < 0xd800 || c > 0xdfff {
			means(t, fmt.Sprintf(`"\u%04x"`, c), string(rune(c)), fmt.Sprintf(`"\u%04X"`, c), string(rune(c)))
		}
	}
	for _, c := range []int{0xd800, 0xd801, 0xd8ff, 0xdaaa, 0xdb7f, 0xdbff, 0xdc00, 0xdc01, 0xdead, 0xdfff} {
		broken(t, fmt.Sprintf(`"\u%04x"`, c), fmt.Sprintf(`"\u%04X"`, c), fmt.Sprintf(`"a\u%04xb"`, c))
	}
	broken(t, `"\ud83d\ude00"`, `"\uD83D\uDE00"`, `"\u"`, `"\u0"`, `"\u00"`, `"\u004"`, `"\u004 "`, `"\u 0041"`, `"\u+041"`, `"\u-041"`, `"\u0_41"`, `"\u_041"`, `"\u00g1"`, `"\ug041"`, `"\u004G"`, `"\u00x1"`, `"\u0x41"`, `"\u004\"`, `"\u\u0041"`, `"\u00`+"\u0661\u0661"+`"`, "\"\\u00\x80\x80\"", `"\u004`, `"\u00`,
		`"\u`, `"\u0041`, `"\u004`+"\n1\"", `"\u00:1"`, `"\u00/1"`, `"\u00@1"`, "\"\\u00`1\"", `"\u00{1"`, `"\u00[1"`)
}

// P7.1: what may not stand in a string; strings without an end.
func TestBrokenStrings(t *testing.T) {
	for c := rune(0); c < ' '; c++ {
		if c != '\t' {
			broken(t, `"`+string(c)+`"`, `"a`+string(c)+`b"`, `"`+string(c), `"\n`+string(c)+`"`)
		}
	}
	for _, s := range notUTF8() {
		broken(t, `"`+s+`"`, `"a`+s+`"`, `"`+s, `"\`+s+`"`)
	}
	broken(t, `"`, `"a`, `"a b c`, `"a\"`, "\"a\n\"", "\"a\r\"", "\"a\r\nb\"", "\"\n", "\"a #\n", `"a'`, "\"\u20ac")
	fails(t, 1, `!"`, `!"a`)
	fails(t, 3, `"" "`, `"" "a`, `a, "`+"\n")
	is(t, "\"a\" \"\n\"", wrong(40, 4), `"a" "b" "`, wrong(40, 8))
}
