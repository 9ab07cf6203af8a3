package lex_test

import (
	"encoding/json"
	"fmt"
	"math/rand"
	"regexp"
	"slices"
	"strings"
	"testing"
	"unicode/utf8"

	"rubric/api"
	"rubric/lex"
)

// The document's words once more, as expressions.
var (
	blanksWord = regexp.MustCompile(`^[\t\n\r ,]+`)
	remarkWord = regexp.MustCompile(`^#[^\n\r]*`)
	nameWord   = regexp.MustCompile(`^[_A-Za-z][_0-9A-Za-z]*`)
	signWord   = regexp.MustCompile(`^(?:[!$&():=@\[\]{|}]|\.\.\.)`)
	numberWord = regexp.MustCompile(`^-?(?:0|[1-9][0-9]*)(\.[0-9]+)?([eE][-+]?[0-9]+)?`)
	behindWord = regexp.MustCompile(`^[0-9.A-Za-z_]`)
	stringWord = regexp.MustCompile(`^"(?:[^"\\\x00-\x08\x0a-\x1f]|\\["\\/bfnrt]|\\u[0-9A-Fa-f]{4})*"`)
	escapeWord = regexp.MustCompile(`\\(?:u.{4}|.)`)
	surrogate  = regexp.MustCompile(`^\\u[dD][89a-fA-F]`)
	belowBlank = regexp.MustCompile(`[\x00-\x08\x0b\x0c\x0e-\x1f]`)
	lineEnd    = regexp.MustCompile(`\r\n|\r|\n`)
	indentWord = regexp.MustCompile(`^[\t ]*`)
)

// model: what Lex answers by these.
func model(text string) ([]api.Token, int, api.Errno) {
	if len(text) > 4096 {
		return nil, 0, api.ErrLong
	}
	at := 0
	if strings.HasPrefix(text, "\xef\xbb\xbf") {
		at = 3
	}
	l := []api.Token{}
	for at < len(text) {
		rest := text[at:]
		if s := blanksWord.FindString(rest); s != "" {
			at += len(s)
			continue
		}
		if s := remarkWord.FindString(rest); s != "" {
			if i := modelWrong(s); i >= 0 {
				return nil, at + i, api.ErrLex
			}
			at += len(s)
			continue
		}
		kind, meant, n := modelToken(rest)
		if n == 0 {
			return nil, at, api.ErrLex
		}
		if len(l) == 1500 {
			return nil, at, api.ErrFull
		}
		l = append(l, api.Token{Kind: kind, Text: meant, At: at})
		at += n
	}
	return append(l, api.Token{At: len(text)}), 0, api.OK
}

// modelWrong: where a remark goes wrong; -1, if it doesn't.
func modelWrong(s string) int {
	for i, c := range s {
		if c == utf8.RuneError && !strings.HasPrefix(s[i:], "\xef\xbf\xbd") || c < 32 && c != 9 {
			return i
		}
	}
	return -1
}

// modelToken: the token that the text begins with, and how many bytes it has; none, if none begins.
func modelToken(s string) (int, string, int) {
	if m := nameWord.FindString(s); m != "" {
		return api.TName, m, len(m)
	}
	if m := signWord.FindString(s); m != "" {
		return api.TSign, m, len(m)
	}
	if m := numberWord.FindStringSubmatch(s); m != nil {
		if behindWord.MatchString(s[len(m[0]):]) {
			return 0, "", 0
		}
		if m[1]+m[2] != "" {
			return api.TFloat, m[0], len(m[0])
		}
		return api.TInt, m[0], len(m[0])
	}
	if strings.HasPrefix(s, `"""`) {
		return modelBlock(s)
	}
	return modelString(s)
}

// modelString: a string means what the library's JSON says that it does.
func modelString(s string) (int, string, int) {
	m := stringWord.FindString(s)
	if m == "" || !utf8.ValidString(m) {
		return 0, "", 0
	}
	if slices.ContainsFunc(escapeWord.FindAllString(m, -1), surrogate.MatchString) {
		return 0, "", 0
	}
	var meant string
	if json.Unmarshal([]byte(strings.ReplaceAll(m, "\t", `\t`)), &meant) != nil {
		return 0, "", 0
	}
	return api.TString, meant, len(m)
}

func modelBlock(s string) (int, string, int) {
	from, at := 3, 3
	raw := ""
	for {
		i := strings.Index(s[at:], `"""`)
		if i < 0 {
			return 0, "", 0
		}
		at += i + 3
		if i > 0 && s[at-4] == '\\' {
			raw += s[from:at-4] + `"""`
			from = at
			continue
		}
		if !utf8.ValidString(s[3:at]) || belowBlank.MatchString(s[3:at]) {
			return 0, "", 0
		}
		return api.TString, modelMeaning(raw + s[from:at-3]), at
	}
}

// modelMeaning: of a block string: GraphQL's BlockStringValue, step by step.
func modelMeaning(raw string) string {
	lines := lineEnd.Split(raw, -1)
	common := -1
	for i, line := range lines {
		if i == 0 {
			continue
		}
		indent := len(indentWord.FindString(line))
		if indent < len(line) && (common == -1 || indent < common) {
			common = indent
		}
	}
	for i := range lines {
		if i > 0 && common > 0 {
			lines[i] = lines[i][min(common, len(lines[i])):]
		}
	}
	first, last := 0, len(lines)
	for first < last && len(indentWord.FindString(lines[first])) == len(lines[first]) {
		first++
	}
	for first < last && len(indentWord.FindString(lines[last-1])) == len(lines[last-1]) {
		last--
	}
	formatted := ""
	for i, line := range lines[first:last] {
		if i > 0 {
			formatted += "\n"
		}
		formatted += line
	}
	return formatted
}

// agree: whether Lex answers as the model does; and whether P7.2 holds of the answer.
func agree(t *testing.T, text string) {
	t.Helper()
	l, at, e := lex.Lex(text)
	wantL, wantAt, wantE := model(text)
	if !slices.Equal(l, wantL) || at != wantAt || e != wantE {
		t.Fatalf("P7.1: Lex(%q): %s; wanted %s", text, told(l, at, e), told(wantL, wantAt, wantE))
	}
	if e == api.OK {
		covers(t, text, l)
	}
}

var (
	ahead    = regexp.MustCompile(`^(?:[\t\n\r ,]|#[^\n\r]*[\n\r])*$`)
	aheadEnd = regexp.MustCompile(`^(?:[\t\n\r ,]|#[^\n\r]*[\n\r])*(?:#[^\n\r]*)?$`)
)

// covers: whether each token, but a string, stands in the text at its place, and there is nothing between but what may be.
func covers(t *testing.T, text string, l []api.Token) {
	t.Helper()
	read := 0
	if strings.HasPrefix(text, "\ufeff") {
		read = len("\ufeff")
	}
	for i, x := range l {
		gap := ahead
		if i == len(l)-1 {
			gap = aheadEnd
		}
		if x.At < read || x.At > len(text) || !gap.MatchString(text[read:x.At]) {
			t.Fatalf("P7.2: %q: the bytes from %d on, up to the token %d: %s", text, read, i, listed(l))
		}
		rest := text[x.At:]
		if x.Kind != api.TString && !strings.HasPrefix(rest, x.Text) {
			t.Fatalf("P7.2: %q: the token %d doesn't stand there: %s", text, i, listed(l))
		}
		read = x.At + len(x.Text)
		if x.Kind == api.TString {
			_, _, n := modelToken(rest)
			read = x.At + n
		}
	}
	if last := l[len(l)-1]; last != (api.Token{At: len(text)}) || read != len(text) {
		t.Fatalf("P7.2: %q: the end: %s", text, listed(l))
	}
}

// every: does something with every row of n bytes of the alphabet.
func every(n int, alphabet string, do func(string)) {
	row := make([]byte, n)
	var fill func(int)
	fill = func(i int) {
		if i == n {
			do(string(row))
			return
		}
		for _, c := range []byte(alphabet) {
			row[i] = c
			fill(i + 1)
		}
	}
	fill(0)
}

// P7.1, P7.2: all short texts of a few bytes.
func TestModelAll(t *testing.T) {
	all := make([]byte, 256)
	for i := range all {
		all[i] = byte(i)
	}
	for _, c := range []struct {
		most                    int
		head, alphabet, trailer string
	}{
		{2, "", string(all), ""},
		{2, `"`, string(all), `"`},
		{2, `"""`, string(all), `"""`},
		{2, "#", string(all), "\n!"},
		{2, `"\u00`, string(all), `"`},
		{2, `"\`, string(all), `"`},
		{5, "", "-+019.eE", ""},
		{5, "", "a1 .\"#\n!", ""},
		{5, "1", "-05.e_ ", ""},
		{6, `"`, `"\u0n`, ""},
		{6, `"`, `\ud80`, `"`},
		{7, `"""`, `"\a `, `"""`},
		{6, `"""`, "a \t\n\r", `"""`},
		{9, `"""a`, "\n b", `"""`},
		{4, "", "\xef\xbb\xbf a#", "a"},
		{4, "\"", "\xed\xa0\x9f\xf4\x80\x8f\xc2\xc0a", "\""},
		{4, "#", "\xe0\xa0\x9f\xf0\x90\xed\xc3\xefa\n", ""},
		{5, "", "\"a", "\""},
	} {
		most := c.most
		if testing.Short() {
			most = min(most, 3)
		}
		for n := range most + 1 {
			if n == 3 && len(c.alphabet) == 256 {
				break
			}
			every(n, c.alphabet, func(s string) { agree(t, c.head+s+c.trailer) })
		}
	}
}

// P7.1, P7.2: random texts: of parts that are tokens, that aren't quite, and that stand between; some of their bytes changed.
func TestModelRandom(t *testing.T) {
	r := rand.New(rand.NewSource(7))
	parts := []string{"a", "query", "_x9", "0", "-0", "1", "-12", "01", "1.5", "1e3", "-1.5E-30", "1.", "1e", "!", "$", "&", "(", ")", "...", ":", "=", "@", "[", "]", "{", "|", "}", "..", ".", "-", "?", `""`, `"a"`, `"\n\"\\\/"`, `"\u00e9"`, `"\ud83d"`, `"`, `"""`, `"""a"""`,
		`"""a\"""b"""`, "\"\"\"\n  a\n    b\n\n  c\n\"\"\"", "\"\"\"\r\n\ta\r\tb\n\"\"\"", `\`, "#", "#a\n", "# \u20ac\r\n", " ", "\t", "\n", "\r", ",", "\ufeff", "\u00e9", "\"\u20ac\"", "\x00", "\x1f", "\x7f", "\x80", "\xed\xa0\x80", "\xf4\x90\x80\x80"}
	usual := []string{" ", "a", "1", "{", "}", " ", "\n", `"b"`, "...", ", ", "-1.5e3", "\"\"\"\n a\n  b\"\"\"", "(", ")", ":"}
	rounds := 60000
	if testing.Short() {
		rounds = 3000
	}
	for i := range rounds {
		var b strings.Builder
		for range r.Intn(14) {
			if r.Intn(4) > 0 {
				b.WriteString(usual[r.Intn(len(usual))])
			} else {
				b.WriteString(parts[r.Intn(len(parts))])
			}
		}
		text := []byte(b.String())
		if i%5 == 0 && len(text) > 0 {
			text[r.Intn(len(text))] = byte(r.Intn(256))
		}
		agree(t, string(text))
	}
}

// P7.1, P7.2: random texts of many bytes, about the limits of bytes and tokens.
func TestModelLong(t *testing.T) {
	r := rand.New(rand.NewSource(77))
	parts := []string{"a", "1", "!", "...", `""`, "{}", "a b", "(:)", "1,", "\n", "[a]", "#x\n"}
	rare := []string{"?", "01", `"`, "\x80", "..", "#\x01\n"}
	for range 400 {
		var b strings.Builder
		most := 2000 + r.Intn(2200)
		for b.Len() < most {
			b.WriteString(parts[r.Intn(len(parts))])
			b.WriteString(strings.Repeat(" ", r.Intn(3)))
			if r.Intn(3000) == 0 {
				b.WriteString(rare[r.Intn(len(rare))])
			}
		}
		agree(t, b.String())
	}
}

// P7.1: Name, of all short texts.
func TestModelName(t *testing.T) {
	whole := regexp.MustCompile(nameWord.String() + `$`)
	for n := range 4 {
		every(n, "azAZ_09 -.@[`{/:\x80\xc3\xa9\n", func(s string) {
			if lex.Name(s) != whole.MatchString(s) {
				t.Errorf("P7.1: Name(%q): %t", s, lex.Name(s))
			}
		})
	}
}

// P6, P7 (R3, R6, R8); P7.4: beside an error there is nothing else; the same is answered again; answers are new memory.
func TestRules(t *testing.T) {
	texts := []string{"", "a", "\ufeff{a(b:-1.5e3, c: \"d\")}", "\"\\u00e9\"", "\"plain\"", "\"\"\"\n a\n  b\"\"\"", "\"\"\"plain\"\"\"", "? a", "a 01", strings.Repeat("!", 1501), strings.Repeat("!", 1500), strings.Repeat(" ", 4097)}
	for _, s := range texts {
		l, at, e := lex.Lex(s)
		if e != api.OK && len(l) > 0 {
			t.Errorf("P7: Lex(%.20q): tokens beside an error", s)
		}
		first := told(l, at, e)
		for i := range l[:cap(l)] {
			l[:cap(l)][i] = api.Token{Kind: 9, Text: "changed", At: -1}
		}
		if again := lexed(s); again != first {
			t.Errorf("P7.4: Lex(%.20q) again, what it answered being changed: %.200s; ahead: %.200s", s, again, first)
		}
		q, e := lex.Quote(s)
		if p, e2 := lex.Quote(s); p != q || e2 != e {
			t.Errorf("P7: Quote(%.20q) again: %.40s, %d", s, p, e2)
		}
	}
	if got := fmt.Sprint(lex.Lex("a")); got != fmt.Sprint([]api.Token{{Kind: api.TName, Text: "a"}, {At: 1}}, 0, api.OK) {
		t.Errorf("P7: Lex: %s", got)
	}
}
