package lex_test

import (
	"regexp"
	"strings"
	"testing"

	"girdle/api"
	"girdle/lex"
)

// scans: is a text cut into these tokens, and the End?
func scans(t *testing.T, s string, want ...lex.Token) {
	t.Helper()
	want = append(want, lex.Token{Kind: lex.End, At: len(s)})
	got, f := lex.Scan(s)
	if f != (api.Fault{}) || !sameTokens(got, want) {
		t.Errorf("Scan of %.100q: %.500v, fault %v, not %.500v", s, got, f, want)
	}
}

// faults: is a text refused, with that number at that byte, without any token?
func faults(t *testing.T, s string, code api.Errno, at int) {
	t.Helper()
	got, f := lex.Scan(s)
	if f != (api.Fault{Code: code, At: at}) || len(got) != 0 {
		t.Errorf("Scan of %.100q (%d bytes): %d tokens, fault %v, not %d at %d", s, len(s), len(got), f, code, at)
	}
}

// sameTokens: are both the same tokens?
func sameTokens(a, b []lex.Token) bool {
	if len(a) != len(b) {
		return false
	}
	for i, x := range a {
		if x != b[i] {
			return false
		}
	}
	return true
}

// one: a token of a kind, at a byte.
func one(kind, at int, text string) lex.Token { return lex.Token{Kind: kind, At: at, Text: text} }

// What the library's expressions know of a text: what is left out, and each kind's
// tokens.
var (
	leftOut = regexp.MustCompile(`^(?:[ \t\r]|#[^\n]*)+`)
	kinds   = map[int]*regexp.Regexp{
		lex.Word:   regexp.MustCompile(`^[a-zA-Z]+`),
		lex.Number: regexp.MustCompile(`^-?[0-9]+(?:[./][0-9]+)?`),
		lex.Sign:   regexp.MustCompile(`^(?:>=|<=|[][,;+=])`),
		lex.Line:   regexp.MustCompile(`^\n`),
	}
	open = regexp.MustCompile(`^-?[0-9]+[./](?:[^0-9]|$)`)
)

// asked: the tokens of a text, or its fault, as the library's expressions tell them.
func asked(s string) ([]lex.Token, api.Fault) {
	var list []lex.Token
	for at := 0; ; {
		at += len(leftOut.FindString(s[at:]))
		if at == len(s) {
			return append(list, one(lex.End, at, "")), api.Fault{}
		}
		token, ok := next(s, at)
		if !ok {
			return nil, api.Fault{Code: api.ErrForm, At: at}
		}
		list = append(list, token)
		at += len(token.Text)
	}
}

// next: the token that begins at a byte.
func next(s string, at int) (lex.Token, bool) {
	if open.MatchString(s[at:]) {
		return lex.Token{}, false
	}
	for kind, is := range kinds {
		if text := is.FindString(s[at:]); text != "" {
			return one(kind, at, text), true
		}
	}
	return lex.Token{}, false
}

// dice gives numbers that look thrown, the same ones at each run.
type dice uint64

// next: a number below n.
func (d *dice) next(n int) int {
	*d ^= *d << 13
	*d ^= *d >> 7
	*d ^= *d << 17
	return int(uint64(*d) >> 1 % uint64(n))
}

// text: so many pieces, one behind the other.
func (d *dice) text(n int, pieces ...string) string {
	var text strings.Builder
	for range n {
		text.WriteString(pieces[d.next(len(pieces))])
	}
	return text.String()
}
