package lex_test

import (
	"math"
	"slices"
	"strings"
	"testing"
	"unsafe"

	"girdle/lex"
)

// region: where a text stands.
func region(s string) [2]uintptr {
	from := uintptr(unsafe.Pointer(unsafe.StringData(s)))
	return [2]uintptr{from, from + uintptr(len(s))}
}

// shared: do two texts stand in the same memory?
func shared(a, b string) bool {
	x, y := region(a), region(b)
	return x[0] < y[1] && y[0] < x[1]
}

// What is answered shares no memory with what was handed in, nor with itself.
func TestTokensAreNewMemory(t *testing.T) {
	s := strings.Clone("never [1/2, -0.5] >= 3 from 0 to 12 # so\nA [a, a]\n")
	list, _ := lex.Scan(s)
	if len(list) < 10 {
		t.Fatalf("%d tokens", len(list))
	}
	for i, token := range list {
		if shared(token.Text, s) {
			t.Errorf("%v shares memory with the text", token)
		}
		for _, other := range list[:i] {
			if shared(token.Text, other.Text) {
				t.Errorf("%v shares memory with %v", token, other)
			}
		}
	}
	again, _ := lex.Scan(s)
	if &again[0] == &list[0] || !sameTokens(again, list) {
		t.Error("Scan: not twice the same, each new")
	}
}

func TestSharedIsFound(t *testing.T) {
	s := strings.Clone("abc")
	if !shared(s, s[1:2]) || shared(s[:1], s[2:]) || shared(s, strings.Clone(s)) {
		t.Error("shared memory isn't told")
	}
}

// What is handed in, its spare room too, stays as it is.
func TestJoinLeavesTokens(t *testing.T) {
	all := []lex.Token{one(lex.Word, 1, "a"), one(lex.Line, 2, "\n"), one(lex.Number, 3, "7"), one(lex.Sign, 4, "["), one(lex.Sign, 5, "]")}
	was := slices.Clone(all)
	for n := range len(all) + 1 {
		first := lex.Join(all[:n]...)
		if !sameTokens(all, was) || lex.Join(all[:n]...) != first {
			t.Fatalf("Join of %v changed them, or isn't twice the same", was[:n])
		}
	}
	alone := all[:1]
	if got := lex.Join(alone...); shared(got, all[0].Text) {
		t.Error("Join of one shares its memory")
	}
}

// All calls end at all arguments, and none panics.
func TestWrongArguments(t *testing.T) {
	d := dice(521288629)
	for i := range 3000 {
		bytes := make([]byte, i%300)
		for j := range bytes {
			bytes[j] = byte(d.next(256))
		}
		list, f := lex.Scan(string(bytes))
		if want, fault := asked(string(bytes)); f != fault || !sameTokens(list, want) {
			t.Fatalf("Scan of %q: %v, fault %v", bytes, list, f)
		}
		lex.Join(list...)
		lex.Join(one(d.next(9)-2, -d.next(math.MaxInt), string(bytes)), lex.Token{}, one(d.next(9)-2, i, string(bytes)))
	}
	for _, b := range []string{"\x00", "-", "1", "\n", "#", "\xff"} {
		lex.Scan(strings.Repeat(b, 1<<24))
	}
}
