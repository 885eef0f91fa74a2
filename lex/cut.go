package lex

import "strings"

// The sorts of bytes that may stand beside each other.
const (
	letters = "abcdefghijklmnopqrstuvwxyzABCDEFGHIJKLMNOPQRSTUVWXYZ"
	digits  = "0123456789"
	blanks  = " \t\r"
)

// lineEnd is the byte of a line's end.
const lineEnd = '\n'

// cut gives the kind of the token that begins at a byte, and where it ends;
// false: none can begin there.
func cut(s string, at int) (kind, end int, ok bool) {
	isLetter, isDigit := among(letters), among(digits)
	from := at
	switch b := s[at]; {
	case isLetter(b):
		return Word, past(s, at, isLetter), true
	case b == '-':
		from++
		fallthrough
	case isDigit(b):
		end, ok = number(s, from)
		return Number, end, ok
	case b == lineEnd:
		return Line, at + 1, true
	}
	end = at + sign(s[at:])
	return Sign, end, end > at
}

// number tells where a number ends whose digits begin at a byte; false: there are
// none, there or behind a point or a stroke.
func number(s string, at int) (int, bool) {
	isDigit := among(digits)
	end := past(s, at, isDigit)
	if end == at {
		return at, false
	}
	if end == len(s) || s[end] != '.' && s[end] != '/' {
		return end, true
	}
	behind := end + 1
	end = past(s, behind, isDigit)
	return end, end > behind
}

// sign tells how many bytes the sign has with which a text begins; 0: with none.
func sign(s string) int {
	for _, text := range [...]string{">=", "<=", "[", "]", ",", ";", "+", "="} {
		if strings.HasPrefix(s, text) {
			return len(text)
		}
	}
	return 0
}

// pastBlanks gives the first byte from one on that isn't left out.
func pastBlanks(s string, at int) int {
	at = past(s, at, among(blanks))
	if at == len(s) || s[at] != '#' {
		return at
	}
	return past(s, at, func(b byte) bool { return b != lineEnd })
}

// past gives the first byte from one on that isn't of a sort.
func past(s string, at int, is func(b byte) bool) int {
	for at < len(s) && is(s[at]) {
		at++
	}
	return at
}

// among gives what tells whether a byte is one of these.
func among(sort string) func(b byte) bool {
	return func(b byte) bool { return strings.IndexByte(sort, b) >= 0 }
}
