package show_test

import (
	"math/big"
	"slices"
	"strings"
	"testing"

	"girdle/api"
	"girdle/model"
	"girdle/ratio"
	"girdle/show"
)

// list: whole numbers as ratios.
func list(n ...int64) []api.Rat {
	all := []api.Rat{}
	for _, x := range n {
		all = append(all, ratio.Of(x, 1))
	}
	return all
}

// one: a model of one state, without inputs.
func one() model.Model {
	return model.Model{
		Dim: 1, A: [][]api.Rat{list(0)}, B: [][]api.Rat{list()}, C: list(1), Start: model.Zono{Center: list(0)},
		Horizon: ratio.Of(2, 1), Step: ratio.Of(1, 2),
	}
}

// two: a model of two states and two inputs, with ways and claims.
func two() model.Model {
	return model.Model{
		Dim: 2, Inputs: 2, A: [][]api.Rat{list(0, 1), {ratio.Of(-1, 3), ratio.Of(22, -7)}}, B: [][]api.Rat{list(5, 6), list(-7, 8)}, C: list(9, -10),
		Start:   model.Zono{Center: list(11, 12), Gens: [][]api.Rat{list(13, 14), {ratio.Of(1, 2), ratio.Of(0, 1)}}},
		Input:   model.Zono{Center: list(15, 16), Gens: [][]api.Rat{list(-17, 18)}},
		Horizon: ratio.Of(19, 2), Step: ratio.Of(1, 20),
		Claims: []model.Claim{
			{Never: true, Dir: list(21, 22), Bound: ratio.Of(-23, 24), From: ratio.Of(0, 1), To: ratio.Of(19, 2)},
			{Dir: []api.Rat{ratio.Of(-2, 5), ratio.Of(0, 1)}, Bound: ratio.Of(25, 1), From: ratio.Of(1, 3), To: ratio.Of(1, 3)},
			{Never: true, Dir: list(0, 0), Bound: ratio.Of(0, 1), From: ratio.Of(2, 1), To: ratio.Of(3, 1)},
		},
	}
}

// lines: a text of lines.
func lines(list ...string) string { return strings.Join(list, "\n") + "\n" }

// shows: is a model shown as that?
func shows(t *testing.T, m model.Model, want string) {
	t.Helper()
	if got, e := show.Text(m); e != api.OK || got != want {
		t.Errorf("Text of %v: error %d and\n%.3000s, not\n%.3000s", m, e, got, want)
	}
}

// dice gives numbers that look thrown, the same ones at each run.
type dice uint64

// next: a number below n.
func (d *dice) next(n int) int {
	*d ^= *d << 13
	*d ^= *d >> 7
	*d ^= *d << 17
	return int(uint64(*d) >> 1 % uint64(n))
}

// rat: a ratio from a number up to another one.
func (d *dice) rat(from, to int) api.Rat {
	den := 1 + d.next(1000)
	return ratio.Of(int64(from*den+d.next((to-from)*den+1)), int64(den))
}

// row: numbers.
func (d *dice) row(n int) []api.Rat {
	row := make([]api.Rat, n)
	for i := range row {
		row[i] = d.rat(-100, 100)
	}
	return row
}

// rows: lists of numbers.
func (d *dice) rows(n, wide int) [][]api.Rat {
	rows := make([][]api.Rat, n)
	for i := range rows {
		rows[i] = d.row(wide)
	}
	return rows
}

// model: one that may be, of at most so many states and inputs.
func (d *dice) model(most int) model.Model {
	dim, inputs := 1+d.next(most), d.next(most+1)
	m := model.Model{Dim: dim, Inputs: inputs, A: d.rows(dim, dim), B: d.rows(dim, inputs), C: d.row(dim)}
	m.Start = model.Zono{Center: d.row(dim), Gens: d.rows(d.next(5), dim)}
	m.Input = model.Zono{Center: d.row(inputs), Gens: d.rows(d.next(5), inputs)}
	m.Horizon, m.Step = d.rat(4, 100), d.rat(1, 3)
	for range d.next(5) {
		m.Claims = append(m.Claims, model.Claim{Never: d.next(2) == 0, Dir: d.row(dim), Bound: d.rat(-9, 9), From: d.rat(0, 2), To: d.rat(2, 4)})
	}
	return m
}

// known: a model's text, as the library writes its numbers.
func known(m model.Model) string {
	claims := ""
	for _, c := range m.Claims {
		word, sign := "always", "<="
		if c.Never {
			word, sign = "never", ">="
		}
		claims += word + " [" + row(c.Dir) + "] " + sign + " " + number(c.Bound) + " from " + number(c.From) + " to " + number(c.To) + "\n"
	}
	return lines(
		"dim "+big.NewInt(int64(m.Dim)).String(), "inputs "+big.NewInt(int64(m.Inputs)).String(),
		"A ["+table(m.A)+"]", "B ["+table(m.B)+"]", "c ["+row(m.C)+"]", "start "+set(m.Start), "input "+set(m.Input),
		"horizon "+number(m.Horizon), "step "+number(m.Step),
	) + claims
}

func number(a api.Rat) string {
	num, den := value(a.Num.Size), value(a.Den)
	if a.Num.Minus {
		num.Neg(num)
	}
	return new(big.Rat).SetFrac(num, den).RatString()
}

// value: a number by its digits.
func value(a api.Nat) *big.Int {
	n := new(big.Int)
	for _, digit := range slices.Backward(a) {
		n.Lsh(n, 32).Or(n, big.NewInt(int64(digit)))
	}
	return n
}

func row(a []api.Rat) string {
	text := ""
	for i, x := range a {
		if i > 0 {
			text += ", "
		}
		text += number(x)
	}
	return text
}

func table(a [][]api.Rat) string {
	text := ""
	for i, x := range a {
		if i > 0 && len(x) > 0 {
			text += "; "
		}
		text += row(x)
	}
	return text
}

func set(z model.Zono) string {
	text := "[" + row(z.Center) + "]"
	for _, way := range z.Gens {
		text += " + [" + row(way) + "]"
	}
	return text
}
