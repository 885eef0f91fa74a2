package parse_test

import (
	"strings"
	"testing"

	"girdle/api"
	"girdle/model"
)

// A line begins with a word.
func TestLineWithoutWord(t *testing.T) {
	for _, begin := range []string{"2 dim", "[1]", "] 1", "+ [1]", "= 3", ">= 3", "<= 3", ", 1", "; 1", "-1", "1/0", "0.5 dim 2", "17"} {
		refuses(t, begin, api.ErrForm, 0)
		refuses(t, "dim 2\n\n"+begin+"\nwhat", api.ErrForm, 7)
		s := small().text()
		refuses(t, s+begin, api.ErrForm, len(s))
	}
}

func TestUnknownWords(t *testing.T) {
	for _, word := range []string{
		"what", "Dim", "DIM", "dims", "di", "dimension", "Inputs", "a", "b", "C", "AA", "AB", "Start", "starts", "Input", "Horizon", "Step", "steps",
		"Never", "NEVER", "nevers", "Always", "from", "to", "x", "claim", "end",
	} {
		for _, behind := range []string{"", " 3", " [1]", " 1/0", "\n"} {
			refuses(t, word+behind, api.ErrKind, 0)
			refuses(t, "dim 2\n "+word+behind, api.ErrKind, 7)
			s := small().text()
			refuses(t, s+word+behind, api.ErrKind, len(s))
		}
	}
}

// Each of the first nine words begins but one line; the others as many as there are.
func TestTwice(t *testing.T) {
	s := small().text()
	for _, word := range words {
		refuses(t, s+word+" "+small()[word], api.ErrTwice, len(s))
		// Nothing behind the word is looked at, nor any line behind that one.
		for _, behind := range []string{"", " x", " 1/0", " 99", "\nwhat", " [\n2 dim"} {
			refuses(t, s+word+behind, api.ErrTwice, len(s))
		}
		line := word + " " + small()[word] + "\n"
		refuses(t, line+"\n "+line, api.ErrTwice, len(line)+2)
		refuses(t, s+"what 1\n"+line, api.ErrKind, len(s))
		refuses(t, s+"1\n"+line, api.ErrForm, len(s))
	}
	for _, claim := range strings.SplitAfter(strings.TrimSpace(small()["claims"]), "\n") {
		m := smallModel()
		if strings.HasPrefix(claim, "never") {
			m.Claims = append(m.Claims, m.Claims[0], m.Claims[0])
		} else {
			m.Claims = append(m.Claims, m.Claims[1], m.Claims[1])
		}
		reads(t, s+strings.TrimSpace(claim)+"\n"+claim, m)
	}
}

// Each of the first nine words must be there; a claim need not.
func TestMissing(t *testing.T) {
	for _, s := range []string{"", " ", "\n", "\n\n \n", "# dim 2", "never [1] >= 1 from 0 to 1\n"} {
		refuses(t, s, api.ErrMissing, len(s))
	}
	for i, word := range words {
		a := small()
		delete(a, word)
		s := a.text()
		refuses(t, s, api.ErrMissing, len(s))
		refuses(t, s+"\n # "+word+" "+small()[word], api.ErrMissing, len(s)+4+len(word)+1+len(small()[word]))
		// Two that aren't there, and one there alone.
		delete(a, words[(i+4)%len(words)])
		s = a.text()
		refuses(t, s, api.ErrMissing, len(s))
		s = word + " " + small()[word]
		refuses(t, s, api.ErrMissing, len(s))
		// That is told ahead of layer 10's error, but behind all of the lines.
		a = small().with("c", "[1, 2, 3]").with("horizon", "-1")
		delete(a, word)
		s = a.text()
		refuses(t, s, api.ErrMissing, len(s))
		refuses(t, s+"2 dim", api.ErrForm, len(s))
	}
}

// What layer 10 refuses is told at the text's end.
func TestChecked(t *testing.T) {
	for _, x := range []struct {
		word, behind string
		want         api.Errno
	}{
		{"dim", "0", api.ErrShape}, {"dim", "1", api.ErrShape}, {"dim", "3", api.ErrShape}, {"dim", "16", api.ErrShape},
		{"inputs", "0", api.ErrShape}, {"inputs", "2", api.ErrShape},
		{"A", "[]", api.ErrShape}, {"A", "[;]", api.ErrShape}, {"A", "[0, 1]", api.ErrShape}, {"A", "[0, 1; -1]", api.ErrShape}, {"A", "[0, 1; -1, 0; 0, 0]", api.ErrShape}, {"A", "[0, 1; -1, 0;]", api.ErrShape},
		{"B", "[]", api.ErrShape}, {"B", "[0]", api.ErrShape}, {"B", "[;]", api.ErrShape}, {"B", "[0, 1]", api.ErrShape}, {"B", "[0; 1; 2]", api.ErrShape}, {"B", "[0; 1, 2]", api.ErrShape}, {"B", "[;0]", api.ErrShape},
		{"c", "[]", api.ErrShape}, {"c", "[0]", api.ErrShape}, {"c", "[0, 1, 2]", api.ErrShape},
		{"start", "[]", api.ErrShape}, {"start", "[1]", api.ErrShape}, {"start", "[1, 0] + []", api.ErrShape}, {"start", "[1, 0] + [1, 2] + [1]", api.ErrShape}, {"start", "[1, 2, 3]", api.ErrShape},
		{"input", "[]", api.ErrShape}, {"input", "[1, 2]", api.ErrShape}, {"input", "[1] + [1, 2]", api.ErrShape},
		{"start", "[1, 0]" + strings.Repeat(" + [1, 0]", model.MaxGens+1), api.ErrLong}, {"input", "[1]" + strings.Repeat(" + [1]", model.MaxGens+1), api.ErrLong},
		{"horizon", "0", api.ErrHorizon}, {"horizon", "-1", api.ErrHorizon}, {"horizon", "9/10", api.ErrHorizon}, {"step", "0", api.ErrHorizon}, {"step", "-0.1", api.ErrHorizon},
		{"step", "1/4097", api.ErrSteps}, {"horizon", "410", api.ErrSteps},
		{"claims", "never [1] >= 1 from 0 to 1\n", api.ErrShape}, {"claims", "always [] <= 1 from 0 to 1\n", api.ErrShape},
		{"claims", "always [1, 2] <= 1 from -1 to 1\n", api.ErrHorizon}, {"claims", "never [1, 2] >= 1 from 1 to 1/2\n", api.ErrHorizon}, {"claims", "never [1, 2] >= 1 from 0 to 11/10\n", api.ErrHorizon},
	} {
		s := small().with(x.word, x.behind).text()
		refuses(t, s, x.want, len(s))
		refuses(t, s+"\n# x\n", x.want, len(s)+5)
		refuses(t, strings.TrimSuffix(s, "\n"), x.want, len(s)-1)
		// Any line's error is told ahead of that.
		refuses(t, s+"dim 2", api.ErrTwice, len(s))
	}
	m := smallModel()
	m.Step = m.Horizon
	m.Step.Den = api.Nat{4096}
	reads(t, small().with("step", "1/4096").text(), m)
}

// Ways up to as many as there may be.
func TestMostWays(t *testing.T) {
	m := smallModel()
	m.Start.Gens, m.Input.Gens = nil, nil
	for range model.MaxGens {
		m.Start.Gens = append(m.Start.Gens, list(1, 0))
		m.Input.Gens = append(m.Input.Gens, list(-7))
	}
	reads(t, small().with("start", "[1, 0]"+strings.Repeat(" + [1, 0]", model.MaxGens)).with("input", "[0]"+strings.Repeat("+[-7]", model.MaxGens)).text(), m)
	m.Start.Gens, m.Input.Gens = nil, nil
	reads(t, small().with("start", "[1, 0]").with("input", "[0]").text(), m)
}

// The first error of several is told.
func TestFirst(t *testing.T) {
	for s, x := range map[string]struct {
		want api.Errno
		at   int
	}{
		"dim 17 3":                            {api.ErrRange, 4},
		"dim 17\nwhat":                        {api.ErrRange, 4},
		"what\ndim 17":                        {api.ErrKind, 0},
		"dim 2 3\ndim 17":                     {api.ErrForm, 6},
		"c [1/0, x]":                          {api.ErrZero, 3},
		"c [x, 1/0]":                          {api.ErrForm, 3},
		"c [1, 1/0; 2]":                       {api.ErrZero, 6},
		"c [1, 2; 1/0]":                       {api.ErrForm, 7},
		"c [1, 2] 1/0":                        {api.ErrForm, 9},
		"never [1/0] <= 3 from 0 to 1":        {api.ErrZero, 7},
		"never [1] <= 1/0 from 0 to 1":        {api.ErrForm, 10},
		"never [1] >= 1/0 to 1 from 0":        {api.ErrZero, 13},
		"always [1] <= 3 from 1/0 to 2/0":     {api.ErrZero, 21},
		"always [1] <= 3 to 1 from 0":         {api.ErrForm, 16},
		"step 1\nstep 1/0\nhorizon x":         {api.ErrTwice, 7},
		"horizon x\nstep 1\nstep 1":           {api.ErrForm, 8},
		"horizon 1/0\nhorizon 1":              {api.ErrZero, 8},
		"A [1, 2; 3\n, 4]\nwhat":              {api.ErrForm, 10},
		"start [1] + 2\nstart [1]":            {api.ErrForm, 12},
		"inputs -1\ninputs 1":                 {api.ErrRange, 7},
		"dim 1\n  inputs 1/2 # dim 1\ndim 1":  {api.ErrRange, 15},
		"dim 1\n2 inputs\nwhat\ndim 1":        {api.ErrForm, 6},
		"never [1] >= 1 from 0 to 1\nfrom 0":  {api.ErrKind, 27},
		"never [1] >= 1 from 0\nto 1\ndim 99": {api.ErrForm, 21},
	} {
		refuses(t, s, x.want, x.at)
	}
}
