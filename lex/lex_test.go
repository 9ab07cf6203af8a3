package lex_test

import (
	"fmt"
	"strings"
	"testing"

	"rubric/api"
	"rubric/lex"
)

// The faces that the document lists, signatures and all.
var (
	_ func(string) ([]api.Token, int, api.Errno) = lex.Lex
	_ func(string) (string, api.Errno)           = lex.Quote
	_ func(string) bool                          = lex.Name
)

// lexed: what Lex answers, as a text: the tokens, each as its kind, its text, and its place; or the error, and its place.
func lexed(text string) string {
	return told(lex.Lex(text))
}

func told(l []api.Token, at int, e api.Errno) string {
	if e != api.OK {
		return strings.TrimSpace(fmt.Sprintf("error %d at %d %s", e, at, listed(l)))
	}
	if at != 0 {
		return fmt.Sprintf("no error at %d", at)
	}
	return listed(l)
}

func listed(l []api.Token) string {
	var b []string
	for _, x := range l {
		if x.Kind == api.TString {
			b = append(b, fmt.Sprintf("string%q@%d", x.Text, x.At))
			continue
		}
		b = append(b, fmt.Sprintf("%s%s@%d", map[int]string{api.TEnd: "end", api.TName: "name:", api.TInt: "int:", api.TFloat: "float:", api.TSign: ""}[x.Kind], x.Text, x.At))
	}
	return strings.Join(b, " ")
}

// wrong: an error, told as lexed does.
func wrong(e api.Errno, at int) string {
	return fmt.Sprintf("error %d at %d", e, at)
}

// is: whether each text is lexed as is told behind it.
func is(t *testing.T, pairs ...string) {
	t.Helper()
	for i := 0; i < len(pairs); i += 2 {
		if got := lexed(pairs[i]); got != pairs[i+1] {
			t.Errorf("P7.1: Lex(%.60q): %.600s; wanted %.600s", pairs[i], got, pairs[i+1])
		}
	}
}

// fails: whether each text is answered by ErrLex at that place.
func fails(t *testing.T, at int, texts ...string) {
	t.Helper()
	for _, s := range texts {
		is(t, s, wrong(api.ErrLex, at))
	}
}

// P7.1: the document's examples.
func TestExamples(t *testing.T) {
	is(t,
		"{a(b:-1.5e3)}", "{@0 name:a@1 (@2 name:b@3 :@4 float:-1.5e3@5 )@11 }@12 end@13",
		"01", wrong(api.ErrLex, 0),
		`"a`, wrong(api.ErrLex, 0),
		"x..y", wrong(api.ErrLex, 1),
	)
}

// P7.1: a text as they are written.
func TestOrdinary(t *testing.T) {
	is(t, "query Q($a: [Int!]! = [1, -2]) { # all\n  f(x: \"y\", z: $a) @skip(if: true) { ...F }\r\n  \"\"\"\n  z\n  \"\"\" | & }",
		"name:query@0 name:Q@6 (@7 $@8 name:a@9 :@10 [@12 name:Int@13 !@16 ]@17 !@18 =@20 [@22 int:1@23 int:-2@26 ]@28 )@29 {@31 "+
			"name:f@41 (@42 name:x@43 :@44 string\"y\"@46 name:z@51 :@52 $@54 name:a@55 )@56 @@58 name:skip@59 (@63 name:if@64 :@66 name:true@68 )@72 "+
			"{@74 ...@76 name:F@79 }@81 string\"z\"@86 |@100 &@102 }@104 end@105")
}

// P7.1: the empty text, and what stands between tokens.
func TestBetween(t *testing.T) {
	is(t, "", "end@0", " ", "end@1", "\t", "end@1", "\n", "end@1", "\r", "end@1", ",", "end@1", ",, \t\n\r\r\n,", "end@9", "a", "name:a@0 end@1",
		" a", "name:a@1 end@2", "a ", "name:a@0 end@2", "\ta\t", "name:a@1 end@3", "\na\n", "name:a@1 end@3", "\ra\r", "name:a@1 end@3", ",a,", "name:a@1 end@3",
		"a b", "name:a@0 name:b@2 end@3", "a\tb", "name:a@0 name:b@2 end@3", "a\nb", "name:a@0 name:b@2 end@3", "a\rb", "name:a@0 name:b@2 end@3",
		"a\r\nb", "name:a@0 name:b@3 end@4", "a,b", "name:a@0 name:b@2 end@3", "a ,\t\r\n\n b", "name:a@0 name:b@8 end@9", "1,2", "int:1@0 int:2@2 end@3")
	for c := rune(0); c < ' '; c++ {
		if !strings.ContainsRune("\t\n\r", c) {
			fails(t, 0, string(c), string(c)+"a")
			fails(t, 1, "a"+string(c), " "+string(c)+"b", "!"+string(c)+"\n")
		}
	}
	fails(t, 0, "\u007f", "\u0080", "\u0085", "\u00a0", "\u2028", "\u3000", "\u200b", "\U000e0020", "\x80", "\xff", "\xc2", "\xc2 ")
	fails(t, 2, "a \u00a0b", "a \u2029b", "a \vb", "a \fb", "a \x85b")
}

// P7.1: remarks.
func TestRemarks(t *testing.T) {
	is(t, "#", "end@1", "##", "end@2", "#a", "end@2", "a#", "name:a@0 end@2", "a#b", "name:a@0 end@3", "a #b\nc", "name:a@0 name:c@5 end@6", "a#b\rc", "name:a@0 name:c@4 end@5",
		"a#b\r\nc", "name:a@0 name:c@5 end@6", "#\na", "name:a@2 end@3", "#\n#\r#", "end@5", "#\"\na\"", wrong(api.ErrLex, 4), "1#2\n3", "int:1@0 int:3@4 end@5",
		"# \"\"\" ? .. 01 # \t,\u007f\u00e9\ufeff\ufffd\U0001f600\U0010ffff\u2028\n!", "!@39 end@40", "#\t\n", "end@3", "{#}\n}", "{@0 }@4 end@5")
}

// P7.1: what may not stand in remarks; the first of it is told.
func TestWrongRemarks(t *testing.T) {
	for c := rune(0); c < ' '; c++ {
		if !strings.ContainsRune("\t\n\r", c) {
			fails(t, 1, "#"+string(c), "#"+string(c)+"\n", "#"+string(c)+"\x80"+string(c))
			fails(t, 4, "a# b"+string(c), "a\n#b"+string(c)+"\n?", "#\n#\t"+string(c)+"a")
		}
	}
	for _, s := range notUTF8() {
		fails(t, 1, "#"+s, "#"+s+"\n", "#"+s+"\x01", "#"+s+"a")
		fails(t, 3, "##\t"+s+s, "a #"+s)
		fails(t, 4, "#\u20ac"+s)
	}
	fails(t, 2, "##\x80\x01", "##\x01\x80", "#a\xc3\n#\x01", "#a\x00?")
	fails(t, 0, "?#\x01", "\"#\x01", "01#\x01")
}

// notUTF8: bytes that aren't, whichever stand behind; the first of them is wrong.
func notUTF8() []string {
	return []string{
		"\x80", "\xbf", "\xfe", "\xff", "\xf8\x88\x80\x80\x80", "\xfc\x84\x80\x80\x80\x80", // what no rune begins with
		"\xc0\x80", "\xc0\xaf", "\xc1\xbf", "\xe0\x80\x80", "\xe0\x9f\xbf", "\xf0\x80\x80\x80", "\xf0\x8f\xbf\xbf", "\xc0\xa2", "\xc1\x81", // too long forms
		"\xed\xa0\x80", "\xed\xaf\xbf", "\xed\xb0\x80", "\xed\xbf\xbf", "\xed\xa0\xbd\xed\xb8\x80", // surrogates
		"\xf4\x90\x80\x80", "\xf4\xbf\xbf\xbf", "\xf5\x80\x80\x80", "\xf7\xbf\xbf\xbf", // above U+10FFFF
		"\xc2", "\xdf", "\xe2\x82", "\xe2", "\xf0\x9f\x98", "\xf0\x9f", "\xf4", "\xef\xbf", "\xef\xbb", // cut off
	}
}

// P7.1: U+FEFF at the beginning, and elsewhere.
func TestMark(t *testing.T) {
	is(t, "\ufeff", "end@3", "\ufeffa", "name:a@3 end@4", "\ufeff a", "name:a@4 end@5", "\ufeff#\ufeff\n!", "!@8 end@9", "\ufeff\"\ufeff\"", "string\"\\ufeff\"@3 end@8", "\ufeff01", wrong(api.ErrLex, 3))
	fails(t, 3, "\ufeff\ufeff", "\ufeff\ufeffa", "\ufeff\ufffe", "\ufeff?")
	fails(t, 1, " \ufeff", "a\ufeff", "\n\ufeffa", ",\ufeff")
	fails(t, 0, "\ufffe", "\uffff", "\ufffd", "\xef\xbb", "\xef", "\xfe\xff", "\xff\xfe", "\xef\xbb\xbe")
	fails(t, 2, "#\n\ufeff")
}

// P7.1: names, alone and beside other tokens.
func TestNames(t *testing.T) {
	letters := "abcdefghijklmnopqrstuvwxyzABCDEFGHIJKLMNOPQRSTUVWXYZ_"
	for _, c := range letters + "0123456789" {
		is(t, "x"+string(c), fmt.Sprintf("name:x%c@0 end@2", c))
		if strings.ContainsRune(letters, c) {
			is(t, string(c), fmt.Sprintf("name:%c@0 end@1", c), " "+string(c)+"9 ", fmt.Sprintf("name:%c9@1 end@4", c))
			fails(t, 1, " 1"+string(c))
		}
	}
	is(t, "__typename", "name:__typename@0 end@10", "a1b2", "name:a1b2@0 end@4", "_0", "name:_0@0 end@2", "a-1", "name:a@0 int:-1@1 end@3", "a!b", "name:a@0 !@1 name:b@2 end@3",
		"a...b", "name:a@0 ...@1 name:b@4 end@5", "a\"b\"c", "name:a@0 string\"b\"@1 name:c@4 end@5", "true", "name:true@0 end@4", "e1", "name:e1@0 end@2", letters+"0123456789", "name:"+letters+"0123456789@0 end@63",
		"\"\"a", "string\"\"@0 name:a@2 end@3", ")a(", ")@0 name:a@1 (@2 end@3")
	fails(t, 1, "a-", "a?", "a.", "a..", "a\u00e9", "a\u0131", "a\u2160", "a\u0660", "a/", "a`", "a^", "a'", "a\\", "a~", "a+", "a*", "a;", "a<", "a%", "a\x7f", "a\xe9", "a\"")
}

// P7.1: each sign; points; and what is no sign.
func TestSigns(t *testing.T) {
	signs := "!$&():=@[]{|}"
	for _, c := range signs {
		is(t, string(c), fmt.Sprintf("%c@0 end@1", c), fmt.Sprintf("%ca%c%c", c, c, c), fmt.Sprintf("%c@0 name:a@1 %c@2 %c@3 end@4", c, c, c), fmt.Sprintf("1%c", c), fmt.Sprintf("int:1@0 %c@1 end@2", c))
	}
	for c := byte('!'); c <= '~'; c++ {
		if !strings.Contains(signs+",#", string(rune(c))) && (c < '0' || c > '9') && !lex.Name(string(rune(c))) {
			fails(t, 0, string(rune(c)), string(rune(c))+" ", string(rune(c))+"!")
		}
	}
	is(t, "...", "...@0 end@3", "......", "...@0 ...@3 end@6", "... .", wrong(api.ErrLex, 4), "...a", "...@0 name:a@3 end@4", "...1", "...@0 int:1@3 end@4", ",...,", "...@1 end@5", "!...!", "!@0 ...@1 !@4 end@5")
	fails(t, 0, ".", "..", ". .", ".. .", ". ..", ".\n..", ".a", "..a", ".1", "..1", ".,..", ".#\n..")
	fails(t, 3, "....", ".....", "....1", "....a", "a, .. ", "(((..")
	fails(t, 1, "{?", "!-", "a..")
}

// P7.1: which error is answered where two would fit: the one that comes first in the text.
func TestFirstError(t *testing.T) {
	is(t, "? 01", wrong(api.ErrLex, 0), "01 ?", wrong(api.ErrLex, 0), "a ? \"", wrong(api.ErrLex, 2), "\"a ?", wrong(api.ErrLex, 0), "a 1a ..", wrong(api.ErrLex, 2), "#\x01\n?", wrong(api.ErrLex, 1),
		"a \xff \xfe", wrong(api.ErrLex, 2), "\"\"\" ? 01", wrong(api.ErrLex, 0), "a -? 01", wrong(api.ErrLex, 2))
}

// P7.1: texts of MaxText bytes, and of one more.
func TestLong(t *testing.T) {
	of := func(s string, n int) string { return strings.Repeat(s, n)[:n] }
	is(t, of(" ", 4096), "end@4096", of("x", 4096), "name:"+of("x", 4096)+"@0 end@4096", "#"+of("\u00e9", 4094)+"\n", "end@4096", `"`+of("\u00e9", 4094)+`"`, fmt.Sprintf("string%q@0 end@4096", of("\u00e9", 4094)),
		`""" `+of("b", 4089)+`"""`, fmt.Sprintf("string%q@0 end@4096", " "+of("b", 4089)), of(" ", 4095)+"!", "!@4095 end@4096", of("1", 4096), "int:"+of("1", 4096)+"@0 end@4096", of(",", 4095)+"?", wrong(api.ErrLex, 4095),
		"1."+of("5", 4094), "float:1."+of("5", 4094)+"@0 end@4096", "\ufeff"+of(" ", 4093), "end@4096", "#"+of("a", 4094)+"\x01", wrong(api.ErrLex, 4095), `"`+of("a", 4095), wrong(api.ErrLex, 0))
	for _, s := range []string{of(" ", 4097), of("x", 4097), "?" + of(" ", 4096), of("!", 4097), "#" + of("\x01", 4096), "01" + of(",", 4095), of("\xff", 4097), `"` + of("\u00e9", 4096), of("\n", 4096) + "a", "\ufeff" + of(" ", 4094), of(" ", 5000), of("a", 100000)} {
		is(t, s, wrong(api.ErrLong, 0))
	}
}

// P7.1: MaxTokens tokens, and one more, also with something wrong behind, or ahead, or there.
func TestFull(t *testing.T) {
	full := strings.Repeat("!", 1500)
	spaced := strings.Repeat("a ", 1499) + "a"
	for _, s := range []string{full, full + " ", full + "\n#a", " " + full, "\ufeff" + full, spaced, spaced + ", ", strings.Repeat("1,", 1500), strings.Repeat(`"" `, 1200) + full[:300], strings.Repeat("...", 1200) + full[:300]} {
		l, at, e := lex.Lex(s)
		if len(l) != 1501 || at != 0 || e != api.OK || l[1500] != (api.Token{At: len(s)}) {
			t.Errorf("P7.1: Lex(%.20q..): %d tokens, %d, %d; wanted 1501", s, len(l), at, e)
		}
	}
	is(t, full+"!", wrong(api.ErrFull, 1500), full+" a", wrong(api.ErrFull, 1501), full+"1", wrong(api.ErrFull, 1500), full+"...", wrong(api.ErrFull, 1500), full+`"a"`, wrong(api.ErrFull, 1500), full+"#b\n\"\"\"\"\"\"", wrong(api.ErrFull, 1503),
		spaced+" b", wrong(api.ErrFull, 3000), "\ufeff"+full+" !", wrong(api.ErrFull, 1504), full+full, wrong(api.ErrFull, 1500), full+"!?", wrong(api.ErrFull, 1500), full+"a 01", wrong(api.ErrFull, 1500), full+`! "`, wrong(api.ErrFull, 1500),
		full+"!#\x01", wrong(api.ErrFull, 1500), full+`"" "`, wrong(api.ErrFull, 1500), full+"a\xff", wrong(api.ErrFull, 1500), full+"?", wrong(api.ErrLex, 1500), full+" 01", wrong(api.ErrLex, 1501), full+`"`, wrong(api.ErrLex, 1500),
		full+"..", wrong(api.ErrLex, 1500), full+"\ufeff!", wrong(api.ErrLex, 1500), full+"#\x01\n!", wrong(api.ErrLex, 1501), full+"# \xff\n!", wrong(api.ErrLex, 1502), "?"+full+"!", wrong(api.ErrLex, 0), full[1:]+"?!", wrong(api.ErrLex, 1499),
		full[1:]+"01 !", wrong(api.ErrLex, 1499), strings.Repeat("!", 4096), wrong(api.ErrFull, 1500), strings.Repeat("!", 4097), wrong(api.ErrLong, 0))
}

// P7.1: which texts are names.
func TestName(t *testing.T) {
	for _, s := range []string{"a", "Z", "_", "__", "a0", "_9", "aB_9", "query", "true", "null", "on", "e1", strings.Repeat("x", 4096), strings.Repeat("_0", 5000)} {
		if !lex.Name(s) {
			t.Errorf("P7.1: Name(%.20q): false", s)
		}
	}
	for _, s := range []string{"", " ", "0", "9a", "1", "-a", "a b", "a ", " a", "a\n", "a,", "a-", "a!", "$a", "...", "a.b", "\u00e9", "a\u00e9", "\ufeffa", "a\x00", "a\x80", "\xff", `"a"`, "#", "a#", "a\"", "a:b", strings.Repeat("x", 5000) + " ", "\u0430", "a\u0660", "@a"} {
		if lex.Name(s) {
			t.Errorf("P7.1: Name(%.20q): true", s)
		}
	}
	for c := 0; c < 256; c++ {
		s := string([]byte{byte(c)})
		if lex.Name(s) != strings.Contains("abcdefghijklmnopqrstuvwxyzABCDEFGHIJKLMNOPQRSTUVWXYZ_", s) || lex.Name("a"+s) != strings.Contains("abcdefghijklmnopqrstuvwxyzABCDEFGHIJKLMNOPQRSTUVWXYZ_0123456789", s) {
			t.Errorf("P7.1: Name of the byte %d, alone or behind a letter", c)
		}
	}
}
