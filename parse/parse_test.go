package parse_test

import (
	"errors"
	"slices"
	"strings"
	"testing"

	"girdle/api"
	"girdle/lex"
	"girdle/model"
	"girdle/parse"
	"girdle/ratio"
)

func TestExample(t *testing.T) {
	refuses(t, "what 3", api.ErrKind, 0)
}

func TestWrong(t *testing.T) {
	for at, want := range map[int]string{0: "byte 0", 5: "byte 5", 65536: "byte 65536", -7: "byte -7"} {
		w := &parse.Wrong{At: at, Err: api.ErrForm}
		if w.Error() != want || w.Unwrap() != error(api.ErrForm) {
			t.Errorf("Wrong at %d: %s, of %v", at, w.Error(), w.Unwrap())
		}
	}
	other := errors.New("other")
	if (&parse.Wrong{Err: other}).Unwrap() != other || (&parse.Wrong{At: 1}).Unwrap() != nil {
		t.Error("Unwrap isn't Err")
	}
	var none *parse.Wrong
	if none.Error() != "byte 0" || none.Unwrap() != nil {
		t.Errorf("no Wrong: %s, of %v", none.Error(), none.Unwrap())
	}
}

// What Parse answers can be asked for its number, and for where it is.
func TestWrongIsAsked(t *testing.T) {
	_, err := parse.Parse("dim 2\nwhat 3")
	var w *parse.Wrong
	var number api.Errno
	if !errors.As(err, &w) || w.At != 6 || !errors.Is(err, api.ErrKind) || errors.Is(err, api.ErrForm) || !errors.As(err, &number) || number != api.ErrKind || err.Error() != "byte 6" {
		t.Errorf("%v", err)
	}
}

func TestModel(t *testing.T) {
	reads(t, small().text(), smallModel())
}

func TestNoClaims(t *testing.T) {
	want := smallModel()
	want.Claims = nil
	reads(t, small().with("claims", "").text(), want)
}

// The lines may stand in any order; that of the claims is kept.
func TestAnyOrder(t *testing.T) {
	d := dice(20260607)
	want, other := smallModel(), smallModel()
	slices.Reverse(other.Claims)
	for range 300 {
		lines := small().lines()
		never, always := lines[9], lines[10]
		for i := range lines {
			j := i + d.next(len(lines)-i)
			lines[i], lines[j] = lines[j], lines[i]
		}
		if slices.Index(lines, never) < slices.Index(lines, always) {
			reads(t, strings.Join(lines, "\n"), want)
		} else {
			reads(t, strings.Join(lines, "\n"), other)
		}
	}
}

func TestManyClaims(t *testing.T) {
	var claims strings.Builder
	want := smallModel()
	want.Claims = nil
	for i := range model.MaxClaims {
		never := i%3 == 0
		if never {
			claims.WriteString("never [1, 2] >= " + ratio.Text(ratio.Of(int64(i), 1)) + " from 1/2 to 1\n")
		} else {
			claims.WriteString("always [1, 2] <= " + ratio.Text(ratio.Of(int64(i), 1)) + " from 1/2 to 1\n")
		}
		want.Claims = append(want.Claims, model.Claim{Never: never, Dir: list(1, 2), Bound: ratio.Of(int64(i), 1), From: ratio.Of(1, 2), To: ratio.Of(1, 1)})
	}
	reads(t, small().with("claims", claims.String()).text(), want)
	s := small().with("claims", claims.String()+"never [1, 2] >= 1 from 0 to 1\n").text()
	refuses(t, s, api.ErrLong, len(s))
}

// Between two lines there may be several ends, and some ahead of the first line and
// behind the last one; blanks, and all from a # on, don't count.
func TestLineEnds(t *testing.T) {
	lines := small().lines()
	for _, between := range []string{"\n", "\n\n", "\n\n\n\n", "\r\n", " \n\t\n ", " # so\n", "\n# dim 3\n# @\n\n", "#\n"} {
		s := strings.Join(lines, between)
		for _, ahead := range []string{"", "\n", "\n\n", between, " ", "# @\n"} {
			for _, behind := range []string{"", "\n", "\n\n\n", between, " ", "# @"} {
				reads(t, ahead+s+behind, smallModel())
			}
		}
	}
}

// Within a line any blanks may stand between tokens, or none where they end anyway.
func TestBlanks(t *testing.T) {
	s := small().text()
	reads(t, strings.ReplaceAll(s, " ", "\t \r "), smallModel())
	reads(t, strings.NewReplacer("[", " [ ", "]", " ] ", ";", " ; ", ",", " , ", "+", " + ").Replace(s), smallModel())
	reads(t, strings.ReplaceAll(s, " ", ""), smallModel())
}

// Two lines don't stand in one, nor does one stand in two.
func TestLinesAreLines(t *testing.T) {
	lines := small().lines()
	s := strings.Join(lines, "\n")
	for i, line := range lines[1:] {
		at := strings.Index(s, "\n"+line)
		refuses(t, s[:at]+" "+s[at+1:], api.ErrForm, at+1)
		if i == 3 {
			refuses(t, s[:at]+" #"+s[at+1:], api.ErrMissing, len(s)+1)
		}
	}
	tokens, _ := lex.Scan(s)
	ends := 0
	for i, token := range tokens {
		// Ahead of what doesn't begin a line there is no end.
		if i == 0 || token.Kind == lex.End || token.Kind == lex.Line || tokens[i-1].Kind == lex.Line {
			continue
		}
		want, at := api.ErrForm, token.At
		if token.Text == "+" {
			// A set may end ahead of it, but no line begins with it.
			at++
		}
		refuses(t, s[:token.At]+"\n"+s[token.At:], want, at)
		ends++
	}
	if ends < 50 {
		t.Errorf("%d ends", ends)
	}
}

// Of no fault of layer 9 anything else is told, wherever it is.
func TestLexFaults(t *testing.T) {
	s := small().text()
	for i := range s {
		if s[i] == ' ' || s[i] == '\n' {
			refuses(t, s[:i]+" @"+s[i:], api.ErrForm, i+1)
			refuses(t, "what 3\ndim 2\ndim 1/0\n"+s[:i]+" 7."+s[i:], api.ErrForm, i+22)
		}
	}
	refuses(t, "@", api.ErrForm, 0)
	refuses(t, strings.Repeat(" ", lex.MaxText+1), api.ErrLong, lex.MaxText)
	refuses(t, "what 3\n"+strings.Repeat("\n", lex.MaxText), api.ErrLong, lex.MaxText)
	refuses(t, "what 3\n"+strings.Repeat("\n", lex.MaxTokens), api.ErrLong, lex.MaxTokens+4)
	reads(t, s+strings.Repeat(" ", lex.MaxText-len(s)), smallModel())
	tokens, _ := lex.Scan(s)
	reads(t, s+strings.Repeat("\n", lex.MaxTokens+1-len(tokens)), smallModel())
	refuses(t, s+strings.Repeat("\n", lex.MaxTokens+2-len(tokens)), api.ErrLong, len(s)+lex.MaxTokens+1-len(tokens))
}
