package lex_test

import (
	"slices"
	"testing"
	"unsafe"

	"rubric/api"
	"rubric/lex"
)

// P7.4: nothing of what is answered lies where the text lies that was handed in: that one's bytes are changed behind the call.
func TestMemory(t *testing.T) {
	for _, s := range []string{"name", "-1.5e3", "{a:b}...", `"plain"`, `"\n"`, `"""plain"""`, "\"\"\"\n a\n  b\"\"\"", "a # b", "\ufeff1"} {
		b := []byte(s)
		l, _, e := lex.Lex(unsafe.String(&b[0], len(b)))
		q, e2 := lex.Quote(unsafe.String(&b[0], len(b)))
		copied := slices.Clone(l)
		for i := range copied {
			copied[i].Text = string([]byte(copied[i].Text))
		}
		quoted := string([]byte(q))
		for i := range b {
			b[i] = '~'
		}
		if !slices.Equal(l, copied) || q != quoted || e != api.OK || e2 != api.OK {
			t.Errorf("P7.4: Lex(%q), Quote: what is answered changes with what was handed in: %s, %s", s, listed(l), q)
		}
	}
}
