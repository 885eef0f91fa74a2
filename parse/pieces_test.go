package parse_test

import (
	"maps"
	"slices"
	"strings"
	"testing"

	"girdle/api"
	"girdle/digits"
	"girdle/model"
	"girdle/ratio"
	"girdle/vec"
)

// How many states and inputs: whole numbers from 0 to as many as there may be, told
// any way.
func TestCounts(t *testing.T) {
	for _, word := range []string{"dim", "inputs"} {
		for behind, want := range map[string]api.Errno{
			"0": api.ErrMissing, "1": api.ErrMissing, "16": api.ErrMissing, "-0": api.ErrMissing, "007": api.ErrMissing, "0.0": api.ErrMissing, "2.0": api.ErrMissing, "4/2": api.ErrMissing, "32/2": api.ErrMissing, "-0/5": api.ErrMissing, "16.000": api.ErrMissing,
			"17": api.ErrRange, "-1": api.ErrRange, "-16": api.ErrRange, "1/2": api.ErrRange, "33/2": api.ErrRange, "0.5": api.ErrRange, "-1/2": api.ErrRange, "16.001": api.ErrRange, "15.999": api.ErrRange, "4294967296": api.ErrRange, "4294967298": api.ErrRange, "18446744073709551618": api.ErrRange,
			"1/18446744073709551616": api.ErrRange, strings.Repeat("9", digits.MaxDigits): api.ErrRange, "1/" + strings.Repeat("9", digits.MaxDigits): api.ErrRange,
			"1/0": api.ErrZero, "0/0": api.ErrZero, "-17/0": api.ErrZero,
			strings.Repeat("0", digits.MaxDigits+1): api.ErrLong, "1/" + strings.Repeat("1", digits.MaxDigits+1): api.ErrLong, "2." + strings.Repeat("0", ratio.MaxPlaces+1): api.ErrLong,
			"": api.ErrForm, "x": api.ErrForm, "dim": api.ErrForm, "[1]": api.ErrForm, "+1": api.ErrForm, "= 1": api.ErrForm,
		} {
			s := word + " " + behind
			if want == api.ErrMissing {
				// It is read, and the text's end is told.
				refuses(t, s, want, len(s))
				refuses(t, "\n"+s+"\n", want, len(s)+2)
				continue
			}
			refuses(t, s, want, len(word)+1)
			refuses(t, "\n"+s+"\n", want, len(word)+2)
		}
	}
}

// Of as many states, and inputs, as there may be a model is read.
func TestMostStates(t *testing.T) {
	row := "0" + strings.Repeat(", 0", vec.MaxDim-1)
	table := "[" + row + strings.Repeat("; "+row, vec.MaxDim-1) + "]"
	zero := slices.Repeat([][]api.Rat{vec.Zero(vec.MaxDim)}, vec.MaxDim)
	m := smallModel()
	m.Dim, m.Inputs, m.A, m.B, m.C, m.Claims = vec.MaxDim, vec.MaxDim, zero, zero, zero[0], nil
	m.Start, m.Input = model.Zono{Center: zero[0]}, model.Zono{Center: zero[0]}
	a := asks{"dim": "16", "inputs": "16", "A": table, "B": table, "c": "[" + row + "]", "start": "[" + row + "]", "input": "[" + row + "]", "horizon": "1", "step": "0.1"}
	reads(t, a.text(), m)
	s := a.with("dim", "15").text()
	refuses(t, s, api.ErrShape, len(s))
	more := "[" + row + strings.Repeat("; "+row, vec.MaxDim) + "]"
	s = a.with("dim", "16").with("A", more).text()
	refuses(t, s, api.ErrShape, len(s))
}

// Each number of a text is layer 4's, and its errors are told where it begins.
func TestNumbers(t *testing.T) {
	s := strings.ReplaceAll(strings.Join(small().lines()[2:], "\n"), "1/2", "3")
	met := 0
	for at := range s {
		if s[at] < '0' || s[at] > '9' || s[at-1] >= '/' && s[at-1] <= '9' {
			continue
		}
		end := at
		for end < len(s) && s[end] >= '/' && s[end] <= '9' {
			end++
		}
		if s[at-1] == '-' {
			at--
		}
		for text, want := range map[string]api.Errno{
			"1/0": api.ErrZero, "-0/0": api.ErrZero, "1." + strings.Repeat("0", ratio.MaxPlaces+1): api.ErrLong, strings.Repeat("0", digits.MaxDigits+1): api.ErrLong,
			"-1/" + strings.Repeat("0", digits.MaxDigits+1): api.ErrLong, strings.Repeat("3", digits.MaxDigits) + ".5": api.ErrLong, "x": api.ErrForm, "=": api.ErrForm,
		} {
			refuses(t, s[:at]+text+s[end:], want, at)
		}
		met++
	}
	if met != 28 {
		t.Errorf("%d numbers", met)
	}
}

func TestNumbersRead(t *testing.T) {
	nines, _ := ratio.Parse(strings.Repeat("9", digits.MaxDigits))
	third, _ := ratio.Div(ratio.Of(-1, 1), nines)
	for text, want := range map[string]api.Rat{
		"0": ratio.Of(0, 1), "-0": ratio.Of(0, 1), "0/7": ratio.Of(0, 1), "007": ratio.Of(7, 1), "-12": ratio.Of(-12, 1), "6/4": ratio.Of(3, 2), "-6/4": ratio.Of(-3, 2), "0.25": ratio.Of(1, 4), "-0.25": ratio.Of(-1, 4), "1.50": ratio.Of(3, 2), "-2.0": ratio.Of(-2, 1),
		strings.Repeat("9", digits.MaxDigits): nines, "-1/" + strings.Repeat("9", digits.MaxDigits): third, "5." + strings.Repeat("0", ratio.MaxPlaces): ratio.Of(5, 1),
	} {
		m := smallModel()
		m.A[0][1], m.C[0], m.Start.Gens[1][0], m.Input.Center[0], m.Claims[0].Bound = want, want, want, want, want
		a := small().with("A", "[0, "+text+"; -1, 0]").with("c", "["+text+", 1/2]").with("input", "["+text+"] + [1/10]")
		a = a.with("start", "[1, 0] + [1/10, 0] + ["+text+", 1/10]").with("claims", strings.Replace(a["claims"], ">= 3", ">= "+text, 1))
		reads(t, a.text(), m)
	}
	m := smallModel()
	m.Horizon, m.Step, m.Claims[0].From, m.Claims[1].To = ratio.Of(5, 2), ratio.Of(1, 4), ratio.Of(3, 4), ratio.Of(5, 2)
	reads(t, small().with("horizon", "2.50").with("step", "3/12").with("claims", "never [1, 0] >= 3 from 0.75 to 1\nalways [0, 1] <= 5 from 0/3 to 5/2").text(), m)
}

// Of no inputs a B of one empty row is one of as many as there are states, wherever
// its line is.
func TestNoInputs(t *testing.T) {
	for dim := range vec.MaxDim {
		dim++
		row := "0" + strings.Repeat(", 0", dim-1)
		a := asks{"dim": ratio.Text(ratio.Of(int64(dim), 1)), "inputs": "0", "A": "[" + row + strings.Repeat("; "+row, dim-1) + "]", "B": "[]", "c": "[" + row + "]", "start": "[" + row + "]", "input": "[]", "horizon": "1", "step": "1"}
		zero := slices.Repeat([][]api.Rat{vec.Zero(dim)}, dim)
		m := model.Model{Dim: dim, A: zero, B: make([][]api.Rat, dim), C: zero[0], Start: model.Zono{Center: zero[0]}, Horizon: ratio.Of(1, 1), Step: ratio.Of(1, 1)}
		lines := a.lines()
		reads(t, strings.Join(lines, "\n"), m)
		slices.Reverse(lines)
		reads(t, strings.Join(lines, "\n"), m)
		// So many empty rows may be told, too.
		reads(t, a.with("B", "["+strings.Repeat(";", dim-1)+"]").text(), m)
		for _, rows := range []string{"[" + strings.Repeat(";", dim) + "]", "[0]", "[0;0]", "[0" + strings.Repeat(";", dim-1) + "]"} {
			s := a.with("B", rows).text()
			refuses(t, s, api.ErrShape, len(s))
		}
		m.Input.Gens = make([][]api.Rat, 2)
		reads(t, a.with("B", "[ ]").with("input", "[] + [] + []").text(), m)
		// Of some inputs an empty row is one row.
		s := a.with("B", "[]").with("inputs", "1").with("input", "[0]").text()
		refuses(t, s, api.ErrShape, len(s))
	}
}

// grammar tells of what stands behind a word: from each state, 0 the first one, by
// which token to which state; at the state "end" a line may end.
type grammar map[string]map[string]string

// join: several in one.
func join(all ...grammar) grammar {
	g := grammar{}
	for _, part := range all {
		for state, steps := range part {
			if g[state] == nil {
				g[state] = map[string]string{}
			}
			maps.Copy(g[state], steps)
		}
	}
	return g
}

// aList: a list from a state on; what stands behind it goes on at another one.
func aList(from, to string) grammar {
	return grammar{from: {"[": from + "["}, from + "[": {"7": from + "7", "]": to}, from + "7": {",": from + ",", "]": to}, from + ",": {"7": from + "7"}}
}

// grammars: of each word.
func grammars() map[string]grammar {
	number := grammar{"0": {"7": "end"}}
	table := join(aList("0", "end"), grammar{"0[": {";": "0["}, "07": {";": "0["}})
	set := join(aList("0", "end"), grammar{"end": {"+": "way"}}, aList("way", "end"))
	claim := func(sign string) grammar {
		return join(aList("0", "1"), grammar{"1": {sign: "2"}, "2": {"7": "3"}, "3": {"from": "4"}, "4": {"7": "5"}, "5": {"to": "6"}, "6": {"7": "end"}})
	}
	return map[string]grammar{
		"dim": number, "inputs": number, "A": table, "B": table, "c": aList("0", "end"), "start": set, "input": set, "horizon": number, "step": number,
		"never": claim(">="), "always": claim("<="),
	}
}

// first: how many tokens may stand behind a word, one behind the other, and whether
// the line may end there.
func (g grammar) first(tokens []string) (int, bool) {
	state := "0"
	for i, token := range tokens {
		next, ok := g[state][token]
		if !ok {
			return i, false
		}
		state = next
	}
	return len(tokens), state == "end"
}

// holds: does Parse tell of a line what its grammar tells?
func (g grammar) holds(t *testing.T, word string, tokens []string) {
	t.Helper()
	line := word + " " + strings.Join(tokens, " ")
	n, ok := g.first(tokens)
	if ok {
		refuses(t, line, api.ErrMissing, len(line))
		refuses(t, line+"\nwhat", api.ErrKind, len(line)+1)
		return
	}
	at := len(strings.Join(append([]string{word}, tokens[:n]...), " ")) + 1
	if n == len(tokens) {
		// The line's end can't stand there.
		refuses(t, line, api.ErrForm, len(line))
		refuses(t, line+"\nwhat", api.ErrForm, len(line))
		return
	}
	refuses(t, line, api.ErrForm, at)
	refuses(t, line+"\nwhat", api.ErrForm, at)
}

// tokens: some of each kind that may stand in a line.
var tokens = []string{"7", "[", "]", ",", ";", "+", ">=", "<=", "=", "from", "to", "x"}

// All lines of up to four tokens.
func TestShortLines(t *testing.T) {
	for word, g := range grammars() {
		lines := [][]string{nil}
		for range 4 {
			var longer [][]string
			for _, line := range lines {
				g.holds(t, word, line)
				for _, token := range tokens {
					longer = append(longer, append(slices.Clone(line), token))
				}
			}
			lines = longer
		}
		for _, line := range lines {
			g.holds(t, word, line)
		}
	}
}

// Longer ones that go as they may, most often.
func TestLongLines(t *testing.T) {
	d := dice(5772156649)
	ended := map[string]int{}
	for word, g := range grammars() {
		for range 4000 {
			line := g.walk(&d)
			if _, ok := g.first(line); ok {
				ended[word]++
			}
			g.holds(t, word, line)
			if len(line) > 0 {
				i := d.next(len(line))
				g.holds(t, word, slices.Delete(slices.Clone(line), i, i+1))
				g.holds(t, word, slices.Insert(slices.Clone(line), i, d.pick(tokens...)))
				line[i] = d.pick(tokens...)
				g.holds(t, word, line)
			}
		}
		if ended[word] < 1000 {
			t.Errorf("%s: %d lines end", word, ended[word])
		}
	}
}

// walk: tokens as they may stand behind a word, up to some end.
func (g grammar) walk(d *dice) []string {
	var line []string
	for state := "0"; state != "end" || d.next(3) > 0; {
		next := slices.Sorted(maps.Keys(g[state]))
		if len(next) == 0 || d.next(60) == 0 {
			return line
		}
		token := d.pick(next...)
		line = append(line, token)
		state = g[state][token]
	}
	return line
}
