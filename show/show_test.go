package show_test

import (
	"fmt"
	"slices"
	"strings"
	"testing"

	"girdle/api"
	"girdle/model"
	"girdle/parse"
	"girdle/ratio"
	"girdle/show"
	"girdle/vec"
)

func TestPoint(t *testing.T) {
	nines, _ := ratio.Parse("-" + strings.Repeat("9", 4900))
	for want, x := range map[string][]api.Rat{
		"[0, 1]": list(0, 1), "[1, 0]": vec.Unit(2, 0), "[]": nil, "[0]": list(0), "[-7]": list(-7), "[1/2]": {ratio.Of(2, 4)},
		"[-1/3, 22/7, 0, 5]":                    {ratio.Of(1, -3), ratio.Of(22, 7), ratio.Zero(), ratio.Of(10, 2)},
		"[-" + strings.Repeat("9", 4900) + "]":  {nines},
		"[" + strings.Repeat("3, ", 999) + "3]": slices.Repeat(list(3), 1000),
	} {
		if got := show.Point(x); got != want {
			t.Errorf("Point of %.200s: %.200s", want, got)
		}
	}
	if show.Point([]api.Rat{}) != "[]" {
		t.Error("Point of none")
	}
}

func TestText(t *testing.T) {
	shows(t, two(), lines(
		"dim 2",
		"inputs 2",
		"A [0, 1; -1/3, -22/7]",
		"B [5, 6; -7, 8]",
		"c [9, -10]",
		"start [11, 12] + [13, 14] + [1/2, 0]",
		"input [15, 16] + [-17, 18]",
		"horizon 19/2",
		"step 1/20",
		"never [21, 22] >= -23/24 from 0 to 19/2",
		"always [-2/5, 0] <= 25 from 1/3 to 1/3",
		"never [0, 0] >= 0 from 2 to 3",
	))
}

// Of no inputs B is told without anything within, however many rows it has.
func TestNoInputs(t *testing.T) {
	shows(t, one(), lines("dim 1", "inputs 0", "A [0]", "B []", "c [1]", "start [0]", "input []", "horizon 2", "step 1/2"))
	m := two()
	m.Inputs, m.B, m.Claims, m.Start.Gens = 0, make([][]api.Rat, 2), nil, nil
	m.Input = model.Zono{Gens: [][]api.Rat{nil, {}}}
	want := lines("dim 2", "inputs 0", "A [0, 1; -1/3, -22/7]", "B []", "c [9, -10]", "start [11, 12]", "input [] + [] + []", "horizon 19/2", "step 1/20")
	shows(t, m, want)
	m.B, m.Input.Center = [][]api.Rat{{}, {}}, list()
	shows(t, m, want)
}

// Each number stands at its place.
func TestManyModels(t *testing.T) {
	d := dice(577215)
	for i := range 1500 {
		m := d.model(1 + i%5)
		shows(t, m, known(m))
	}
}

// At the bounds.
func TestGreatModels(t *testing.T) {
	d := dice(662607015)
	m := d.model(1)
	n := vec.MaxDim
	m.Dim, m.Inputs, m.A, m.B, m.C = n, n, d.rows(n, n), d.rows(n, n), d.row(n)
	m.Start = model.Zono{Center: d.row(n), Gens: d.rows(model.MaxGens, n)}
	m.Input = model.Zono{Center: d.row(n), Gens: d.rows(model.MaxGens, n)}
	m.Claims = nil
	for i := range model.MaxClaims {
		m.Claims = append(m.Claims, model.Claim{Never: i%2 == 0, Dir: d.row(n), Bound: d.rat(-9, 9), From: d.rat(0, 2), To: d.rat(2, 4)})
	}
	shows(t, m, known(m))
	readAgain(t, m)
}

// readAgain: is what is shown read as it was?
func readAgain(t *testing.T, m model.Model) {
	t.Helper()
	text, e := show.Text(m)
	got, err := parse.Parse(text)
	if e != api.OK || err != nil || !model.Same(m, got) {
		t.Errorf("%.2000s: errors %d and %v", text, e, err)
	}
	if again, e := show.Text(got); e != api.OK || again != text {
		t.Errorf("%.2000s: not twice the same: %.2000s", text, again)
	}
}

func TestReadAgain(t *testing.T) {
	readAgain(t, one())
	readAgain(t, two())
	d := dice(1602176634)
	for i := range 1000 {
		readAgain(t, d.model(1+i%4))
	}
	m := one()
	m.A[0][0], _ = ratio.Parse("-" + strings.Repeat("9", 4900))
	m.C[0], _ = ratio.Parse("1/" + strings.Repeat("3", 4900))
	readAgain(t, m)
}

// A model that may not be is refused, by layer 10's error.
func TestRefused(t *testing.T) {
	for i, x := range []struct {
		spoil func(m *model.Model)
		want  api.Errno
	}{
		{func(m *model.Model) { *m = model.Model{} }, api.ErrShape},
		{func(m *model.Model) { m.Dim = 17 }, api.ErrShape},
		{func(m *model.Model) { m.Dim = -1 }, api.ErrShape},
		{func(m *model.Model) { m.Inputs = -1 }, api.ErrShape},
		{func(m *model.Model) { m.A = m.A[:1] }, api.ErrShape},
		{func(m *model.Model) { m.B = nil }, api.ErrShape},
		{func(m *model.Model) { m.Inputs = 0 }, api.ErrShape},
		{func(m *model.Model) { m.C = list(1) }, api.ErrShape},
		{func(m *model.Model) { m.Start.Gens[1] = nil }, api.ErrShape},
		{func(m *model.Model) { m.Input.Center = list(1, 2, 3) }, api.ErrShape},
		{func(m *model.Model) { m.Claims[2].Dir = list(1) }, api.ErrShape},
		{func(m *model.Model) { m.Start.Gens = slices.Repeat(m.Start.Gens[:1], model.MaxGens+1) }, api.ErrLong},
		{func(m *model.Model) { m.Claims = slices.Repeat(m.Claims[:1], model.MaxClaims+1) }, api.ErrLong},
		{func(m *model.Model) { m.C[1] = api.Rat{} }, api.ErrForm},
		{func(m *model.Model) { m.C[1] = api.Rat{Num: api.Int{Size: api.Nat{2}}, Den: api.Nat{2}} }, api.ErrForm},
		{func(m *model.Model) { m.A[1][1] = api.Rat{Den: make(api.Nat, 513)} }, api.ErrLimbs},
		{func(m *model.Model) { m.Horizon = ratio.Zero() }, api.ErrHorizon},
		{func(m *model.Model) { m.Step = ratio.Of(-1, 1) }, api.ErrHorizon},
		{func(m *model.Model) { m.Claims[0].To = ratio.Of(20, 2) }, api.ErrHorizon},
		{func(m *model.Model) { m.Step = ratio.Of(1, 4000) }, api.ErrSteps},
	} {
		m := two()
		x.spoil(&m)
		if got, e := show.Text(m); e != x.want || e != model.Check(m) || got != "" {
			t.Errorf("%d: error %d and %q, not error %d", i, e, got, x.want)
		}
	}
}

// What is handed in, its spare room too, stays as it is; and all is told twice alike.
func TestArgumentsStayAsTheyAre(t *testing.T) {
	m := two()
	m.Start.Gens = append(m.Start.Gens, list(98, 99))[:2]
	m.Claims = append(m.Claims, model.Claim{Dir: list(97)})[:3]
	m.C = append(m.C, list(96)...)[:2]
	told := func() string {
		return fmt.Sprint(m, m.Start.Gens[:3], m.Claims[:4], m.C[:3])
	}
	was := told()
	first, _ := show.Text(m)
	point := show.Point(m.C)
	second, _ := show.Text(m)
	if told() != was || first != second || point != show.Point(m.C) {
		t.Error("a model is changed, or not told twice alike")
	}
}

// All calls end at all arguments, and none panics; and an error stands alone.
func TestWrongArguments(t *testing.T) {
	sizes := []api.Nat{nil, {0}, {1}, {6}, {0, 0}, {0, 5, 0}, make(api.Nat, 600), slices.Repeat(api.Nat{1<<32 - 1}, 512), slices.Repeat(api.Nat{1<<32 - 1}, 1<<20)}
	var rats []api.Rat
	for i, num := range sizes {
		for _, den := range sizes {
			rats = append(rats, api.Rat{Num: api.Int{Minus: i%2 == 0, Size: num}, Den: den})
		}
	}
	show.Point(rats)
	for _, x := range rats {
		show.Point([]api.Rat{x})
		m := two()
		for _, place := range []*api.Rat{&m.A[1][0], &m.B[0][1], &m.C[0], &m.Start.Gens[1][1], &m.Input.Center[0], &m.Step, &m.Horizon, &m.Claims[1].Bound, &m.Claims[2].To} {
			was := *place
			*place = x
			if got, e := show.Text(m); e != model.Check(m) || e != api.OK && got != "" {
				t.Errorf("error %d, not %d, and %q", e, model.Check(m), got)
			}
			*place = was
		}
	}
	show.Point(make([]api.Rat, 1<<20))
}
