package lex_test

import (
	"math"
	"slices"
	"testing"

	"girdle/api"
	"girdle/lex"
)

// joins: do tokens have that text?
func joins(t *testing.T, want string, list ...lex.Token) {
	t.Helper()
	if got := lex.Join(list...); got != want {
		t.Errorf("Join of %.200v: %.200q, not %.200q", list, got, want)
	}
}

func TestJoin(t *testing.T) {
	joins(t, "")
	joins(t, "", one(lex.End, 0, ""))
	joins(t, "a", one(lex.Word, 5, "a"))
	joins(t, "a", one(lex.Word, 5, "a"), one(lex.End, 9, ""))
	joins(t, "\n", one(lex.Line, 0, "\n"))
	joins(t, "\n\n", one(lex.Line, 0, "\n"), one(lex.Line, 0, "\n"), one(lex.End, 0, ""))
	joins(t, "\na b\n", one(lex.Line, 0, "\n"), one(lex.Word, 0, "a"), one(lex.Word, 0, "b"), one(lex.Line, 0, "\n"), one(lex.End, 0, ""))
	joins(t, "A [ 1/2 , -1 ; 0.5 ]\nc = +", one(lex.Word, 0, "A"), one(lex.Sign, 0, "["), one(lex.Number, 0, "1/2"), one(lex.Sign, 0, ","), one(lex.Number, 0, "-1"),
		one(lex.Sign, 0, ";"), one(lex.Number, 0, "0.5"), one(lex.Sign, 0, "]"), one(lex.Line, 0, "\n"), one(lex.Word, 0, "c"), one(lex.Sign, 0, "="), one(lex.Sign, 0, "+"))
}

// A blank stands between each two, but ahead of a Line, ahead of the End and behind a Line.
func TestJoinOfTwo(t *testing.T) {
	for a := lex.Word; a <= lex.End; a++ {
		for b := lex.Word; b <= lex.End; b++ {
			want := "x y"
			if a == lex.Line || b == lex.Line || b == lex.End {
				want = "xy"
			}
			joins(t, want, one(a, 0, "x"), one(b, 0, "y"))
		}
	}
}

// The texts stay as they are, whatever they are, and empty ones are some too.
func TestJoinOfWrongTokens(t *testing.T) {
	joins(t, "a b \xff  9\n", one(99, -1, "a b"), one(-1, math.MaxInt, "\xff"), one(lex.Word, 0, ""), one(math.MinInt, 0, "9\n"))
	joins(t, "  ", lex.Token{}, lex.Token{}, lex.Token{})
	joins(t, "1\na", one(lex.Number, 0, "1"), one(lex.Line, 0, ""), one(lex.Line, 0, "\n"), one(lex.Word, 0, "a"))
}

// What is joined is cut into the same tokens again.
func TestJoinIsCutAgain(t *testing.T) {
	d := dice(1234567)
	for i := range 2000 {
		s := d.text(1+i%60, "a", "dim", "1", "-42", "1/2", "-0.5", ">=", "<=", "=", "[", "]", ",", ";", "+", "\n", " ", "\t", "\r", "# 1 @\n")
		first, f := lex.Scan(s)
		if f.Code != api.OK {
			continue
		}
		text := lex.Join(first...)
		second, f := lex.Scan(text)
		if f.Code != api.OK || !slices.EqualFunc(first, second, alike) || lex.Join(second...) != text {
			t.Fatalf("%q is cut into %v; joined, into %v", s, first, second)
		}
	}
}

// alike: are two tokens the same, but for where they begin?
func alike(a, b lex.Token) bool { return a.Kind == b.Kind && a.Text == b.Text }
