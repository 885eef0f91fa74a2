package parse_test

import (
	"errors"
	"fmt"
	"strings"
	"testing"

	"girdle/api"
	"girdle/model"
	"girdle/parse"
	"girdle/ratio"
)

// words: those that begin one line each, in their order.
var words = []string{"dim", "inputs", "A", "B", "c", "start", "input", "horizon", "step"}

// asks: what stands behind the words of a model that may be; "claims" are lines.
type asks map[string]string

// small: a model of two states and an input.
func small() asks {
	return asks{
		"dim": "2", "inputs": "1", "A": "[0, 1; -1, 0]", "B": "[0; 1]", "c": "[0, 1/2]",
		"start": "[1, 0] + [1/10, 0] + [0, 1/10]", "input": "[0] + [1/10]", "horizon": "1", "step": "1/10",
		"claims": "never [1, 0] >= 3 from 0 to 1\nalways [0, 1] <= 5 from 0 to 1/2\n",
	}
}

// with: the same, but for what stands behind one word.
func (a asks) with(word, behind string) asks {
	a[word] = behind
	return a
}

// lines: its lines, without ends; the claims' are the last.
func (a asks) lines() []string {
	var all []string
	for _, word := range words {
		if behind, there := a[word]; there {
			all = append(all, word+" "+behind)
		}
	}
	for line := range strings.Lines(a["claims"]) {
		all = append(all, strings.TrimSuffix(line, "\n"))
	}
	return all
}

// text: its text.
func (a asks) text() string { return strings.Join(a.lines(), "\n") + "\n" }

// smallModel: the model that small tells of.
func smallModel() model.Model {
	return model.Model{
		Dim: 2, Inputs: 1, A: [][]api.Rat{list(0, 1), list(-1, 0)}, B: [][]api.Rat{list(0), list(1)},
		C:       []api.Rat{ratio.Of(0, 1), ratio.Of(1, 2)},
		Start:   model.Zono{Center: list(1, 0), Gens: [][]api.Rat{{ratio.Of(1, 10), ratio.Of(0, 1)}, {ratio.Of(0, 1), ratio.Of(1, 10)}}},
		Input:   model.Zono{Center: list(0), Gens: [][]api.Rat{{ratio.Of(1, 10)}}},
		Horizon: ratio.Of(1, 1), Step: ratio.Of(1, 10),
		Claims: []model.Claim{
			{Never: true, Dir: list(1, 0), Bound: ratio.Of(3, 1), From: ratio.Of(0, 1), To: ratio.Of(1, 1)},
			{Dir: list(0, 1), Bound: ratio.Of(5, 1), From: ratio.Of(0, 1), To: ratio.Of(1, 2)},
		},
	}
}

// list: whole numbers as ratios.
func list(n ...int64) []api.Rat {
	all := []api.Rat{}
	for _, x := range n {
		all = append(all, ratio.Of(x, 1))
	}
	return all
}

// reads: is a text read as that model, which may be?
func reads(t *testing.T, s string, want model.Model) {
	t.Helper()
	got, err := parse.Parse(s)
	if err != nil {
		t.Errorf("Parse of %.2000q: %v: %v", s, err, errors.Unwrap(err))
		return
	}
	if !model.Same(got, want) || model.Check(got) != api.OK {
		t.Errorf("Parse of %.2000q: %v, not %v", s, got, want)
	}
}

// refuses: is a text refused, by that number at that byte?
func refuses(t *testing.T, s string, want api.Errno, at int) {
	t.Helper()
	got, err := parse.Parse(s)
	w, ok := err.(*parse.Wrong)
	if !ok || w == nil || w.Err != error(want) || w.At != at {
		t.Errorf("Parse of %.2000q (%d bytes): %s, not %d at %d", s, len(s), told(err), want, at)
	}
	if !zero(got) {
		t.Errorf("Parse of %.2000q: %v beside an error", s, got)
	}
}

// told: an error in words.
func told(err error) string {
	var w *parse.Wrong
	if errors.As(err, &w) {
		return fmt.Sprint(w.Err, " at ", w.At)
	}
	return fmt.Sprint(err)
}

// zero: is it the zero model?
func zero(m model.Model) bool { return fmt.Sprint(m) == fmt.Sprint(model.Model{}) }

// last: at which byte of a text something stands for the last time.
func last(s, piece string) int { return strings.LastIndex(s, piece) }

// dice gives numbers that look thrown, the same ones at each run.
type dice uint64

// next: a number below n.
func (d *dice) next(n int) int {
	*d ^= *d << 13
	*d ^= *d >> 7
	*d ^= *d << 17
	return int(uint64(*d) >> 1 % uint64(n))
}

// pick: one of these.
func (d *dice) pick(list ...string) string { return list[d.next(len(list))] }
