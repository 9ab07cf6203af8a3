package lex_test

import (
	"fmt"
	"testing"
)

// ints, floats: numbers, ordinary ones and those at the edges.
var (
	ints   = []string{"0", "-0", "1", "-1", "9", "10", "-10", "100", "1234567890", "-9876543210", "99999999999999999999999999999999999999"}
	floats = []string{"0.0", "-0.0", "1.5", "-1.5", "0.5", "10.50", "1.0123456789", "1e3", "1E3", "1e+3", "1E+3", "1e-3", "1E-3", "0e0", "-0e-0", "1e00", "1e012", "1.5e3", "1.5E3", "1.5e+3", "1.5e-3", "-1.5E-30", "0.5E-7", "1.00e00", "9e9999"}
)

// P7.1: numbers alone, and between other tokens.
func TestNumbers(t *testing.T) {
	for kind, numbers := range map[string][]string{"int": ints, "float": floats} {
		for _, s := range numbers {
			n := len(s)
			is(t, s, fmt.Sprintf("%s:%s@0 end@%d", kind, s, n),
				" "+s+" ", fmt.Sprintf("%s:%s@1 end@%d", kind, s, n+2),
				"["+s+"]", fmt.Sprintf("[@0 %s:%s@1 ]@%d end@%d", kind, s, n+1, n+2),
				s+"-1", fmt.Sprintf("%s:%s@0 int:-1@%d end@%d", kind, s, n, n+2),
				s+",0", fmt.Sprintf("%s:%s@0 int:0@%d end@%d", kind, s, n+1, n+2),
				s+"\"e\"", fmt.Sprintf("%s:%s@0 string\"e\"@%d end@%d", kind, s, n, n+3),
				s+"#.\n", fmt.Sprintf("%s:%s@0 end@%d", kind, s, n+3))
			fails(t, n, s+"\u00e9", s+"?", s+"+", s+"\u0661", s+"\x80", s+"-", s+"- 1", s+"\ufeff", s+"-01", s+"/")
			fails(t, n+1, s+" ..", s+" 1a", s+",-")
		}
	}
}

// P7.1: numbers with a digit, a point, a letter or _ behind: a longer one, or none.
func TestBehindNumbers(t *testing.T) {
	for _, s := range append(ints, floats...) {
		fails(t, 0, s+".", s+"..", s+"...", s+"...a", s+". 5", s+".a", s+".e1", s+"a", s+"z", s+"A", s+"Z", s+"_", s+"e", s+"E", s+"f", s+"x0", s+"_1", s+"L", s+"e+", s+"E-", s+"e 1", s+"e+ 1", s+"e.5", s+"e+-1", s+"e_", s+"eE1")
		fails(t, 2, "! "+s+".", "! "+s+"x")
	}
	for _, s := range floats {
		fails(t, 0, s+".5", s+".0")
	}
	for _, s := range []string{"0", "-0"} {
		for c := '0'; c <= '9'; c++ {
			fails(t, 0, s+string(c), s+string(c)+".5", s+string(c)+"e1")
		}
	}
	is(t, "12", "int:12@0 end@2", "109", "int:109@0 end@3", "-90", "int:-90@0 end@3", "1.50", "float:1.50@0 end@4", "1e30", "float:1e30@0 end@4", "1.5e", wrong(40, 0), "1.5e1", "float:1.5e1@0 end@5", "1e1e1", wrong(40, 0), "1e1.5", wrong(40, 0))
}

// P7.1: what begins as a number, and is none.
func TestWrongNumbers(t *testing.T) {
	fails(t, 0, "-", "--", "--1", "-a", "-.5", "-e1", "- 1", "-\n1", "-\"1\"", "-,1", "-_", "-+1", "+1", "+", ".5", ".0", "00", "01", "-01", "-00", "007", "00.5", "01e1", "0x1F", "0b1", "0_1", "1_000", "1.", "-1.", "0.", "1.e5", "1.-5", "1.+5", "1._5", "1.a",
		"1e", "1e+", "1e-", "1E", "1E+", "1E-", "1ee5", "1e5e", "1e+e", "1e++5", "1e--5", "1e5.", "1e.5", "1.5.", "1.5.5", "1.5e", "1.5e+", "1.5e5.5", "1a", "1.5a", "1e5a", "0a", "-0a", "1__typename", "-\u0661", "1e\u0661", "1.\u0661", "-\x80", "-#\n1", "-?")
	fails(t, 3, "a, 00", "{a -}", "  \t1.,", "x:\n1e")
}
