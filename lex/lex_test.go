package lex_test

import (
	"strings"
	"testing"

	"girdle/api"
	"girdle/lex"
)

func TestConstants(t *testing.T) {
	for want, kind := range []int{lex.Word, lex.Number, lex.Sign, lex.Line, lex.End} {
		if kind != want {
			t.Errorf("kind %d: %d", want, kind)
		}
	}
	if lex.MaxText != 65536 || lex.MaxTokens != 16384 {
		t.Errorf("MaxText %d, MaxTokens %d", lex.MaxText, lex.MaxTokens)
	}
}

func TestScanExample(t *testing.T) {
	scans(t, "-1/2", one(lex.Number, 0, "-1/2"))
}

func TestScanOfNothing(t *testing.T) {
	for _, s := range []string{"", " ", "\t", "\r", " \t\r ", "#", "# a @", " #", "##\r", "#\t\x00\xff-1/"} {
		scans(t, s)
	}
}

func TestWords(t *testing.T) {
	for _, s := range []string{"a", "z", "A", "Z", "m", "dim", "Dim", "DIM", "azAZ", "abcdefghijklmnopqrstuvwxyz", "ABCDEFGHIJKLMNOPQRSTUVWXYZ", strings.Repeat("aZ", lex.MaxText/2)} {
		scans(t, s, one(lex.Word, 0, s))
	}
	scans(t, "ab1cd", one(lex.Word, 0, "ab"), one(lex.Number, 2, "1"), one(lex.Word, 3, "cd"))
	scans(t, "a-1", one(lex.Word, 0, "a"), one(lex.Number, 1, "-1"))
	scans(t, "a b", one(lex.Word, 0, "a"), one(lex.Word, 2, "b"))
	scans(t, "a#b", one(lex.Word, 0, "a"))
	scans(t, "a\rb", one(lex.Word, 0, "a"), one(lex.Word, 2, "b"))
}

func TestNumbers(t *testing.T) {
	for _, s := range []string{
		"0", "9", "7", "0123456789", "007", "-0", "-1", "-12", "1.5", "1/5", "-1.5", "-1/2", "0.0", "0/0", "00/00", "-0.25",
		"12345678901234567890.98765432109876543210", "1/" + strings.Repeat("3", lex.MaxText-2), strings.Repeat("1", lex.MaxText),
	} {
		scans(t, s, one(lex.Number, 0, s))
		if len(s) < lex.MaxText {
			scans(t, s+" ", one(lex.Number, 0, s))
			scans(t, "\n"+s, one(lex.Line, 0, "\n"), one(lex.Number, 1, s))
		}
	}
	scans(t, "1-2", one(lex.Number, 0, "1"), one(lex.Number, 1, "-2"))
	scans(t, "1.5-2/3", one(lex.Number, 0, "1.5"), one(lex.Number, 3, "-2/3"))
	scans(t, "1x", one(lex.Number, 0, "1"), one(lex.Word, 1, "x"))
	scans(t, "1.5e3", one(lex.Number, 0, "1.5"), one(lex.Word, 3, "e"), one(lex.Number, 4, "3"))
	scans(t, "1 2", one(lex.Number, 0, "1"), one(lex.Number, 2, "2"))
	scans(t, "1\r2", one(lex.Number, 0, "1"), one(lex.Number, 2, "2"))
}

func TestSigns(t *testing.T) {
	for _, s := range []string{">=", "<=", "[", "]", ",", ";", "+", "="} {
		scans(t, s, one(lex.Sign, 0, s))
		scans(t, "a"+s+"1", one(lex.Word, 0, "a"), one(lex.Sign, 1, s), one(lex.Number, 1+len(s), "1"))
		scans(t, s+s, one(lex.Sign, 0, s), one(lex.Sign, len(s), s))
	}
	scans(t, ">==", one(lex.Sign, 0, ">="), one(lex.Sign, 2, "="))
	scans(t, "+-1", one(lex.Sign, 0, "+"), one(lex.Number, 1, "-1"))
}

func TestLines(t *testing.T) {
	scans(t, "\n", one(lex.Line, 0, "\n"))
	scans(t, "\n\n", one(lex.Line, 0, "\n"), one(lex.Line, 1, "\n"))
	scans(t, "a\r\nb", one(lex.Word, 0, "a"), one(lex.Line, 2, "\n"), one(lex.Word, 3, "b"))
	scans(t, " \n ", one(lex.Line, 1, "\n"))
}

// All from a # up to a line's end, which stays, is left out: any byte.
func TestComments(t *testing.T) {
	scans(t, "a#@ b\nc", one(lex.Word, 0, "a"), one(lex.Line, 5, "\n"), one(lex.Word, 6, "c"))
	scans(t, "# # a\n#b\n", one(lex.Line, 5, "\n"), one(lex.Line, 8, "\n"))
	scans(t, "#\n1", one(lex.Line, 1, "\n"), one(lex.Number, 2, "1"))
	scans(t, "1#2", one(lex.Number, 0, "1"))
	scans(t, "#a\rb\n", one(lex.Line, 4, "\n"))
	scans(t, "#\u00e4\u2028\n", one(lex.Line, 6, "\n"))
	for b := range 256 {
		if b != '\n' {
			scans(t, "#"+string([]byte{byte(b)})+"1\n2", one(lex.Line, 3, "\n"), one(lex.Number, 4, "2"))
		}
	}
}

// Each byte alone, and between two words.
func TestBytes(t *testing.T) {
	for b := range 256 {
		s := string([]byte{byte(b)})
		want, f := asked(s)
		if f.Code != api.OK {
			faults(t, s, api.ErrForm, 0)
			faults(t, "a"+s+"b", api.ErrForm, 1)
			continue
		}
		scans(t, s, want[:len(want)-1]...)
	}
}

func TestFaults(t *testing.T) {
	for s, at := range map[string]int{
		// What is no token.
		"@": 0, "a @": 2, "a@": 1, "\n\n@": 2, "# a\n@": 4, "a_b": 1, "\u00e4": 0, "a\u00e4": 1, "1\u0661": 1, "(": 0, "a:": 1, "\x00": 0, "a\v": 1, "a\f": 1, "a\u00a0": 1, "\xff": 0, "*": 0, "'": 0,
		// Half a sign, and a blank within.
		">": 0, "<": 0, "> =": 0, "< =": 0, "a >": 2, ">>=": 0, "<>": 0, "=>": 1, "=<": 1, ">\n=": 0, ">#\n=": 0,
		// A - without digits.
		"-": 0, "a - 1": 2, "--1": 0, "-a": 0, "-\n1": 0, "- 1": 0, "1-": 1, "1 -": 2, "-.5": 0, "-/5": 0, "-+1": 0,
		// A point or a stroke without digits ahead.
		".": 0, "/": 0, ".5": 0, "/5": 0, "a.5": 1, "a/5": 1, "1 .5": 2, "1 /5": 2,
		// Or behind: the fault is where the number begins, at its -.
		"1.": 0, "1/": 0, "1.x": 0, "1/x": 0, "12.": 0, "12/ 3": 0, "-1.": 0, "-1/": 0, "a 12.": 2, "a -12/": 2, "1..2": 0, "1//2": 0, "1./2": 0, "1/-2": 0, "1.-2": 0, "1.\n2": 0, "1.#2": 0, "1 2.": 2,
		// There is but one point or stroke in a number.
		"1/2/": 3, "1.2.": 3, "1/2/3": 3, "1.2.3": 3, "1.2/3": 3, "1/2.3": 3, "-1.2/3": 4, "a 10.25.5": 7,
		// The first one is told.
		"a @ 1. -": 2, "1. @": 0, "@ 1.": 0,
	} {
		faults(t, s, api.ErrForm, at)
	}
}

func TestTextTooLong(t *testing.T) {
	for _, b := range []string{" ", "a", "1", "#", "[", "\n", "@", "\xff"} {
		faults(t, strings.Repeat(b, lex.MaxText+1), api.ErrLong, lex.MaxText)
		faults(t, strings.Repeat(b, 3*lex.MaxText), api.ErrLong, lex.MaxText)
	}
	// That is told ahead of any other fault.
	faults(t, "1. @"+strings.Repeat(" ", lex.MaxText), api.ErrLong, lex.MaxText)
	scans(t, strings.Repeat(" ", lex.MaxText))
	scans(t, strings.Repeat(" ", lex.MaxText-1)+"a", one(lex.Word, lex.MaxText-1, "a"))
}

// most: as many tokens as there may be.
func most(token string) []lex.Token {
	var list []lex.Token
	for i := range lex.MaxTokens {
		list = append(list, one(lex.Sign, i*len(token), token))
	}
	return list
}

func TestTooManyTokens(t *testing.T) {
	for _, token := range []string{"[", "<="} {
		full := strings.Repeat(token, lex.MaxTokens)
		scans(t, full, most(token)...)
		// What is left out is no token.
		scans(t, full+" #1 2 3", most(token)...)
		for _, more := range []string{token, "\n", "a", "-1", token + token, "a @"} {
			faults(t, full+more, api.ErrLong, len(full))
			faults(t, full+" \t"+more, api.ErrLong, len(full)+2)
		}
		faults(t, full+"#\n1", api.ErrLong, len(full)+1)
	}
	lines := strings.Repeat("\n", lex.MaxTokens)
	faults(t, lines+"\n", api.ErrLong, lex.MaxTokens)
	if got, f := lex.Scan(lines); f != (api.Fault{}) || len(got) != lex.MaxTokens+1 || got[lex.MaxTokens] != one(lex.End, lex.MaxTokens, "") {
		t.Errorf("%d tokens of %d lines, fault %v", len(got), lex.MaxTokens, f)
	}
}

// Where no token can begin none is one too many; nor is one behind that.
func TestFaultsAmongMany(t *testing.T) {
	full := strings.Repeat("[", lex.MaxTokens)
	for _, no := range []string{"@", "-", ">", "1.", "1/x"} {
		faults(t, full+no, api.ErrForm, len(full))
		faults(t, full[1:]+no, api.ErrForm, len(full)-1)
		faults(t, "a"+no+full, api.ErrForm, 1)
	}
}

func TestScanAsTheLibrary(t *testing.T) {
	d := dice(88172645463325252)
	for i := range 20000 {
		s := d.text(1+i%40, "a", "dim", "Z", "1", "0", "42", "-", "-7", ".", "/", "1/2", "-0.5", ">=", "<=", ">", "=", "[", "]", ",", ";", "+", "\n", " ", "\t", "\r", "# 1", "#", "[1, 2]", "1", "2 ", " 3", " ", " x", "@")
		want, fault := asked(s)
		if fault.Code != api.OK {
			faults(t, s, fault.Code, fault.At)
			continue
		}
		scans(t, s, want[:len(want)-1]...)
	}
}

// The same without what is a fault most often.
func TestScanOfLongTexts(t *testing.T) {
	d := dice(2463534242)
	for range 200 {
		s := d.text(1000, "a", "dim ", "1 ", "-42 ", " 1/2 ", " -0.5 ", ">=", "<=", "=", "[", "]", ",", ";", "+", "\n", " ", "\t", "\r", "# 1 @\n")
		want, fault := asked(s)
		if fault.Code != api.OK {
			t.Fatalf("%q has a fault", s)
		}
		scans(t, s, want[:len(want)-1]...)
	}
}
