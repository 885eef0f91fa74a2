package model_test

import (
	"fmt"
	"math"
	"math/big"
	"testing"

	"girdle/api"
	"girdle/model"
	"girdle/ratio"
	"girdle/vec"
)

func TestBounds(t *testing.T) {
	if model.MaxGens != 32 || model.MaxClaims != 32 || model.MaxSteps != 4096 {
		t.Errorf("MaxGens %d, MaxClaims %d, MaxSteps %d", model.MaxGens, model.MaxClaims, model.MaxSteps)
	}
}

func TestCheckOfModelsThatMayBe(t *testing.T) {
	for _, x := range [][5]int{
		{1, 0, 0, 0, 0}, {1, 1, 1, 1, 1}, {2, 1, 3, 2, 2}, {3, 5, 0, 7, 1}, {5, 3, 7, 0, 4},
		{16, 0, 32, 32, 32}, {16, 16, 32, 0, 32}, {1, 16, 0, 32, 0}, {16, 16, 32, 32, 32},
	} {
		m := some(x[0], x[1], x[2], x[3], x[4])
		checks(t, fmt.Sprint(x), m, api.OK)
	}
}

func TestCheckOfDimAndInputs(t *testing.T) {
	for _, n := range []int{math.MinInt, -1, 0, 17, 18, math.MaxInt} {
		m := some(2, 1, 1, 1, 1)
		m.Dim = n
		checks(t, fmt.Sprint("Dim ", n), m, api.ErrShape)
		m = some(2, 3, 1, 1, 1)
		m.Inputs = n
		checks(t, fmt.Sprint("Inputs ", n), m, api.ErrShape)
	}
	for _, x := range [][2]int{{0, 0}, {0, 1}, {17, 0}, {17, 17}, {1, 17}} {
		checks(t, fmt.Sprint("Dim and Inputs ", x), some(x[0], x[1], 0, 0, 0), api.ErrShape)
		checks(t, fmt.Sprint("Dim and Inputs ", x, ", with ways and claims"), some(x[0], x[1], 2, 2, 2), api.ErrShape)
	}
	for n := 1; n <= 16; n++ {
		checks(t, fmt.Sprint("Dim ", n), some(n, 2, 1, 1, 1), api.OK)
		checks(t, fmt.Sprint("Inputs ", n), some(2, n, 1, 1, 1), api.OK)
	}
	for _, n := range []int{1, 3} {
		m := some(2, 2, 1, 1, 1)
		m.Dim = n
		checks(t, fmt.Sprint("Dim ", n, " beside lists of 2"), m, api.ErrShape)
		m = some(2, 2, 1, 1, 1)
		m.Inputs = n
		checks(t, fmt.Sprint("Inputs ", n, " beside lists of 2"), m, api.ErrShape)
	}
}

// Each list with a place less, or more, and each table with a row less, or more.
func TestCheckOfShapes(t *testing.T) {
	made := func() model.Model { return some(3, 2, 2, 2, 2) }
	m := made()
	lists := held[[]api.Rat](&m)
	if len(lists) != 3+3+1+3+3+2 {
		t.Fatalf("%d lists", len(lists))
	}
	for i := range lists {
		m = made()
		less := held[[]api.Rat](&m)[i]
		*less = (*less)[1:]
		checks(t, fmt.Sprint("list ", i, " with a place less"), m, api.ErrShape)
		m = made()
		more := held[[]api.Rat](&m)[i]
		*more = append(*more, ratio.Of(1, 3))
		checks(t, fmt.Sprint("list ", i, " with a place more"), m, api.ErrShape)
		m = made()
		*held[[]api.Rat](&m)[i] = nil
		checks(t, fmt.Sprint("list ", i, " empty"), m, api.ErrShape)
	}
	for i := range 2 {
		m = made()
		less := held[[][]api.Rat](&m)[i]
		*less = (*less)[1:]
		checks(t, fmt.Sprint("table ", i, " with a row less"), m, api.ErrShape)
		m = made()
		more := held[[][]api.Rat](&m)[i]
		*more = append(*more, (*more)[0])
		checks(t, fmt.Sprint("table ", i, " with a row more"), m, api.ErrShape)
	}
	m = some(3, 0, 0, 0, 0)
	m.B = nil
	checks(t, "B of no rows", m, api.ErrShape)
	m.B = [][]api.Rat{{}}
	checks(t, "B of one empty row", m, api.ErrShape)
	m.B = [][]api.Rat{nil, {}, nil}
	checks(t, "B of three empty rows", m, api.OK)
	m.A[0], m.A[1] = m.A[0][:2], append(m.A[1], ratio.Zero())
	checks(t, "A of rows of unlike lengths", m, api.ErrShape)
}

func TestCheckOfTooMany(t *testing.T) {
	for name, x := range map[string][3]int{"of Start": {33, 0, 0}, "of Input": {0, 33, 0}, "claims": {0, 0, 33}, "all": {33, 33, 33}, "by far": {500, 500, 500}} {
		checks(t, "too many "+name, some(2, 1, x[0], x[1], x[2]), api.ErrLong)
	}
	m := some(2, 1, 0, 0, 0)
	m.Claims = make([]model.Claim, 1<<20)
	checks(t, "claims without anything", m, api.ErrLong)
	m = some(2, 1, 0, 0, 0)
	m.Input.Gens = make([][]api.Rat, 33)
	checks(t, "ways without anything", m, api.ErrLong)
}

// Each number in turn is one that can't be.
func TestCheckOfNumbers(t *testing.T) {
	made := func() model.Model { return some(2, 3, 2, 2, 2) }
	m := made()
	count := len(held[api.Rat](&m))
	if count != 4+6+2+6+9+2+2*5 {
		t.Fatalf("%d numbers", count)
	}
	for i := range count {
		for _, x := range []struct {
			wrong api.Rat
			want  api.Errno
		}{
			{api.Rat{Num: api.Int{Size: api.Nat{2}}, Den: api.Nat{4}}, api.ErrForm},
			{api.Rat{Num: api.Int{Size: api.Nat{1}}}, api.ErrForm},
			{api.Rat{Num: api.Int{Size: api.Nat{1, 0}}, Den: api.Nat{1}}, api.ErrForm},
			{api.Rat{Num: api.Int{Size: sizeOf(power(maxBits))}, Den: api.Nat{1}}, api.ErrLimbs},
			{api.Rat{Num: api.Int{Size: api.Nat{1}}, Den: sizeOf(power(maxBits))}, api.ErrLimbs},
		} {
			m = made()
			*held[api.Rat](&m)[i] = x.wrong
			checks(t, fmt.Sprintf("number %d as %.60v", i, x.wrong), m, x.want)
		}
	}
}

func TestCheckOfTimes(t *testing.T) {
	zero, third, half, one, two := ratio.Zero(), ratio.Of(1, 3), ratio.Of(1, 2), ratio.Of(1, 1), ratio.Of(2, 1)
	minus := ratio.Of(-1, 1000000)
	for _, x := range []struct {
		what                    string
		horizon, step, from, to api.Rat
		want                    api.Errno
	}{
		{"from 0 to the horizon", one, third, zero, one, api.OK},
		{"within", one, third, third, half, api.OK},
		{"at 0", one, third, zero, zero, api.OK},
		{"at one time", one, third, half, half, api.OK},
		{"at the horizon", one, third, one, one, api.OK},
		{"a step beyond the horizon", one, two, zero, one, api.OK},
		{"no horizon", zero, third, zero, zero, api.ErrHorizon},
		{"a horizon below 0", minus, third, zero, zero, api.ErrHorizon},
		{"no step", one, zero, zero, one, api.ErrHorizon},
		{"a step below 0", one, minus, zero, one, api.ErrHorizon},
		{"both below 0", minus, minus, zero, zero, api.ErrHorizon},
		{"from below 0", one, third, minus, one, api.ErrHorizon},
		{"below 0", one, third, minus, minus, api.ErrHorizon},
		{"to below 0", one, third, zero, minus, api.ErrHorizon},
		{"the other way round", one, third, half, third, api.ErrHorizon},
		{"almost one time", one, third, ratio.Of(1000001, 2000000), half, api.ErrHorizon},
		{"to beyond the horizon", one, third, zero, two, api.ErrHorizon},
		{"to a bit beyond it", one, third, zero, ratio.Of(1000001, 1000000), api.ErrHorizon},
		{"beyond it", one, third, two, two, api.ErrHorizon},
		{"within the last step, beyond the horizon", half, third, zero, ratio.Of(2, 3), api.ErrHorizon},
		{"from beyond it", one, third, two, one, api.ErrHorizon},
	} {
		checks(t, x.what, timed(x.horizon, x.step, x.from, x.to), x.want)
	}
}

// The times of any claim.
func TestCheckOfTimesOfEachClaim(t *testing.T) {
	for i := range 5 {
		m := some(2, 1, 1, 1, 5)
		m.Claims[i].From = ratio.Of(-1, 1)
		checks(t, fmt.Sprint("claim ", i), m, api.ErrHorizon)
		m = some(2, 1, 1, 1, 5)
		m.Claims[i].From, m.Claims[i].To = m.Claims[i].To, m.Claims[i].From
		checks(t, fmt.Sprint("claim ", i, " the other way round"), m, api.ErrHorizon)
		m = some(2, 1, 1, 1, 5)
		m.Claims[i].To = ratio.Of(1000, 1)
		checks(t, fmt.Sprint("claim ", i, " beyond the horizon"), m, api.ErrHorizon)
	}
}

// Times of which layer 4 has no room to tell which is above the other one.
func TestCheckOfLongTimes(t *testing.T) {
	small := frac(big.NewInt(1), ones(maxBits))
	great := whole(ones(maxBits))
	near := frac(ones(maxBits), power(maxBits-1))
	nearer := frac(new(big.Int).Sub(ones(maxBits), big.NewInt(2)), ones(maxBits-1))
	times := []*big.Rat{new(big.Rat), small, big.NewRat(1, 3), big.NewRat(1, 1), near, nearer, big.NewRat(2, 1), great}
	for _, horizon := range times[1:] {
		for _, from := range times {
			for _, to := range times {
				want := api.ErrHorizon
				if from.Cmp(to) <= 0 && to.Cmp(horizon) <= 0 {
					want = api.OK
				}
				m := timed(ratOf(horizon), ratOf(horizon), ratOf(from), ratOf(to))
				checks(t, fmt.Sprintf("from %.20s to %.20s of %.20s", from.FloatString(9), to.FloatString(9), horizon.FloatString(9)), m, want)
			}
		}
	}
}

func TestCheckOfSteps(t *testing.T) {
	one := ratio.Of(1, 1)
	for n, want := range map[int64]api.Errno{1: api.OK, 4095: api.OK, 4096: api.OK, 4097: api.ErrSteps, 1 << 40: api.ErrSteps} {
		checks(t, fmt.Sprint(n, " steps"), timed(one, ratio.Of(1, n), one, one), want)
	}
	checks(t, "steps without end", timed(ratOf(whole(ones(maxBits))), ratOf(frac(big.NewInt(1), ones(maxBits))), one, one), api.ErrSteps)
}

func TestSame(t *testing.T) {
	made := func() model.Model { return some(3, 2, 2, 2, 3) }
	a, b := made(), made()
	if !model.Same(a, b) || !model.Same(a, a) || !model.Same(model.Model{}, model.Model{}) {
		t.Error("Same of the same")
	}
	for i := range held[api.Rat](&b) {
		b = made()
		x := held[api.Rat](&b)[i]
		*x = ratio.Neg(*x)
		differ(t, fmt.Sprint("number ", i), a, b)
	}
	for i := range held[[]api.Rat](&b) {
		b = made()
		x := held[[]api.Rat](&b)[i]
		*x = (*x)[:len(*x)-1]
		differ(t, fmt.Sprint("list ", i), a, b)
	}
	for i := range held[[][]api.Rat](&b) {
		b = made()
		x := held[[][]api.Rat](&b)[i]
		*x = (*x)[:len(*x)-1]
		differ(t, fmt.Sprint("table or ways ", i), a, b)
	}
	for i := range a.Claims {
		b = made()
		b.Claims[i].Never = !b.Claims[i].Never
		differ(t, fmt.Sprint("Never ", i), a, b)
	}
	for i, n := range []func(m *model.Model) *int{func(m *model.Model) *int { return &m.Dim }, func(m *model.Model) *int { return &m.Inputs }} {
		b = made()
		*n(&b)++
		differ(t, fmt.Sprint("Dim, Inputs ", i), a, b)
	}
	b = made()
	b.Claims = b.Claims[:2]
	differ(t, "a claim less", a, b)
	b = made()
	b.Claims[0], b.Claims[1] = b.Claims[1], b.Claims[0]
	differ(t, "claims the other way round", a, b)
}

// differ: aren't these the same, either way round?
func differ(t *testing.T, what string, a, b model.Model) {
	t.Helper()
	if model.Same(a, b) || model.Same(b, a) {
		t.Errorf("%s: Same", what)
	}
}

// An empty list is the same, nil or not; and a long number is the same as itself alone.
func TestSameOfEmptyAndLong(t *testing.T) {
	a, b := some(2, 0, 0, 0, 0), some(2, 0, 0, 0, 0)
	b.B, b.Start.Gens, b.Input.Center, b.Input.Gens, b.Claims = [][]api.Rat{nil, nil}, nil, nil, [][]api.Rat{}, []model.Claim{}
	if !model.Same(a, b) || !model.Same(b, a) {
		t.Error("Same of empty lists")
	}
	long := frac(ones(maxBits), ones(maxBits-7))
	a.Horizon, b.Horizon = ratOf(long), ratOf(long)
	if !model.Same(a, b) {
		t.Error("Same of long numbers")
	}
	b.Horizon = ratOf(frac(ones(maxBits), ones(maxBits-11)))
	differ(t, "long numbers", a, b)
	b = some(2, 0, 0, 0, 0)
	b.C = vec.Zero(1)
	differ(t, "lists of unlike lengths", a, b)
}
