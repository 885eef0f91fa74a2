package vec_test

import (
	"fmt"
	"math"
	"math/big"
	"testing"

	"girdle/api"
	"girdle/ratio"
	"girdle/vec"
)

func TestMaxDim(t *testing.T) {
	if vec.MaxDim != 16 {
		t.Errorf("MaxDim: %d", vec.MaxDim)
	}
}

// counts: how many may be asked for, and how many come.
func counts() map[int]int {
	all := map[int]int{math.MinInt: 0, -17: 0, -1: 0, 17: 16, 18: 16, 99: 16, math.MaxInt: 16}
	for n := range 17 {
		all[n] = n
	}
	return all
}

func TestZero(t *testing.T) {
	for n, want := range counts() {
		expect(t, fmt.Sprint("Zero of ", n), vec.Zero(n), api.OK, list(make([]int64, want)...))
	}
}

func TestUnit(t *testing.T) {
	for n, many := range counts() {
		for _, at := range []int{math.MinInt, -2, -1, 0, 1, 2, 7, 14, 15, 16, 17, 98, math.MaxInt} {
			want := make([]int64, many)
			if at >= 0 && at < many {
				want[at] = 1
			}
			expect(t, fmt.Sprint("Unit of ", n, " at ", at), vec.Unit(n, at), api.OK, list(want...))
		}
	}
	expect(t, "Unit of 3 at 1", vec.Unit(3, 1), api.OK, list(0, 1, 0))
}

func TestCheckOfLengths(t *testing.T) {
	for many := range 20 {
		a := list(make([]int64, many)...)
		for _, n := range []int{math.MinInt, -1, 0, 1, 2, 3, 15, 16, 17, 18, 19, math.MaxInt} {
			want := api.ErrShape
			if n == many && n <= 16 {
				want = api.OK
			}
			if e := vec.Check(a, n); e != want {
				t.Errorf("Check of %d as %d: %d, not %d", many, n, e, want)
			}
		}
	}
	if e := vec.Check(nil, 0); e != api.OK {
		t.Errorf("Check of none: %d", e)
	}
}

func TestCheckOfNumbers(t *testing.T) {
	good := ratio.Of(-3, 4)
	form := api.Rat{Num: api.Int{Size: api.Nat{2}}, Den: api.Nat{4}}
	long := api.Rat{Num: api.Int{Size: sizeOf(power(maxBits))}, Den: api.Nat{1}}
	for _, x := range []struct {
		a    []api.Rat
		n    int
		want api.Errno
	}{
		{[]api.Rat{good, good, good}, 3, api.OK},
		{[]api.Rat{form, good, good}, 3, api.ErrForm},
		{[]api.Rat{good, form, good}, 3, api.ErrForm},
		{[]api.Rat{good, good, form}, 3, api.ErrForm},
		{[]api.Rat{good, good, long}, 3, api.ErrLimbs},
		{[]api.Rat{good, form, long}, 3, api.ErrForm},
		{[]api.Rat{good, long, form}, 3, api.ErrLimbs},
		{[]api.Rat{{}}, 1, api.ErrForm},
		{[]api.Rat{good, form, long}, 2, api.ErrShape},
		{[]api.Rat{form}, -1, api.ErrShape},
		{append(make([]api.Rat, 16), long), 17, api.ErrShape},
	} {
		if e := vec.Check(x.a, x.n); e != x.want {
			t.Errorf("Check of %.100v as %d: %d, not %d", x.a, x.n, e, x.want)
		}
	}
}

// operations: those of two lists, place by place, and the library's.
func operations() map[string]struct {
	call func(a, b []api.Rat) ([]api.Rat, api.Errno)
	with func(a, b *big.Rat) *big.Rat
} {
	return map[string]struct {
		call func(a, b []api.Rat) ([]api.Rat, api.Errno)
		with func(a, b *big.Rat) *big.Rat
	}{"Add": {vec.Add, plus}, "Sub": {vec.Sub, minus}}
}

// Lists may be longer than a model's are.
func TestAddSubScaleDot(t *testing.T) {
	d := dice(777)
	for i := range 200 {
		a, b, by := d.rats(i%20, 60), d.rats(i%20, 60), d.rat(40)
		x, y := ratsOf(a), ratsOf(b)
		what := " of " + told(x) + " and " + told(y)
		for name, op := range operations() {
			var want []*big.Rat
			for j := range a {
				want = append(want, op.with(a[j], b[j]))
			}
			got, e := op.call(x, y)
			expect(t, name+what, got, e, ratsOf(want))
		}
		var scaled []*big.Rat
		dot := new(big.Rat)
		for j := range a {
			scaled = append(scaled, times(a[j], by))
			dot = plus(dot, times(a[j], b[j]))
		}
		got, e := vec.Scale(x, ratOf(by))
		expect(t, "Scale of "+told(x)+" by "+by.String(), got, e, ratsOf(scaled))
		one, e := vec.Dot(x, y)
		expect(t, "Dot"+what, one, e, ratOf(dot))
	}
}

func TestByHand(t *testing.T) {
	a, b := []api.Rat{ratio.Of(1, 1), ratio.Of(1, 2)}, list(2, -4)
	got, e := vec.Add(a, b)
	expect(t, "Add", got, e, []api.Rat{ratio.Of(3, 1), ratio.Of(-7, 2)})
	got, e = vec.Sub(a, b)
	expect(t, "Sub", got, e, []api.Rat{ratio.Of(-1, 1), ratio.Of(9, 2)})
	got, e = vec.Scale(a, ratio.Of(-2, 3))
	expect(t, "Scale", got, e, []api.Rat{ratio.Of(-2, 3), ratio.Of(-1, 3)})
	one, e := vec.Dot(a, b)
	expect(t, "1 and a half times 2 and -4", one, e, ratio.Zero())
	one, e = vec.Dot(nil, nil)
	expect(t, "Dot of none", one, e, ratio.Zero())
	got, e = vec.Scale(nil, ratio.Of(1, 2))
	expect(t, "Scale of none", got, e, []api.Rat{})
}

func TestUnlikeLengths(t *testing.T) {
	for many := range 6 {
		for others := range 6 {
			if many == others {
				continue
			}
			a, b := list(make([]int64, many)...), list(make([]int64, others)...)
			what := fmt.Sprint(" of ", many, " and ", others)
			for name, op := range operations() {
				got, e := op.call(a, b)
				refuse(t, name+what, got, e, api.ErrShape)
			}
			got, e := vec.Dot(a, b)
			refuse(t, "Dot"+what, got, e, api.ErrShape)
			if vec.Same(a, b) {
				t.Errorf("Same%s", what)
			}
		}
	}
}

// ErrShape is named ahead of layer 4's errors.
func TestUnlikeLengthsWithoutRoom(t *testing.T) {
	most := ratOf(frac(ones(maxBits), big.NewInt(1)))
	a, b := []api.Rat{most, most}, []api.Rat{most}
	for name, op := range operations() {
		got, e := op.call(a, b)
		refuse(t, name, got, e, api.ErrShape)
	}
	got, e := vec.Dot(a, b)
	refuse(t, "Dot", got, e, api.ErrShape)
}

// Where there is no room at one place, whichever it is, all is refused.
func TestErrorsOfTheLayerBelow(t *testing.T) {
	most := ratOf(frac(ones(maxBits), big.NewInt(1)))
	third := ratio.Of(1, 3)
	for at := range 3 {
		a, b := list(1, 2, 3), list(4, 5, 6)
		a[at], b[at] = most, third
		for name, op := range operations() {
			got, e := op.call(a, b)
			refuse(t, fmt.Sprint(name, " at ", at), got, e, api.ErrLimbs)
			got, e = op.call(b, a)
			refuse(t, fmt.Sprint(name, " at ", at, ", the other way round"), got, e, api.ErrLimbs)
		}
		got, e := vec.Scale(a, ratio.Of(2, 1))
		refuse(t, fmt.Sprint("Scale at ", at), got, e, api.ErrLimbs)
		b[at] = ratio.Of(2, 1)
		one, e := vec.Dot(a, b)
		refuse(t, fmt.Sprint("Dot at ", at), one, e, api.ErrLimbs)
	}
}

// Dot goes on from the first place to the last: where there is no room on the way, it is refused.
func TestDotGoesInOrder(t *testing.T) {
	most := ratOf(frac(ones(maxBits), big.NewInt(1)))
	a := []api.Rat{most, ratio.Of(1, 1), ratio.Of(1, 1)}
	got, e := vec.Dot(a, list(1, 1, -1))
	refuse(t, "the greatest, 1 and -1", got, e, api.ErrLimbs)
	got, e = vec.Dot(a, list(1, -1, 1))
	expect(t, "the greatest, -1 and 1", got, e, most)
}

func TestSame(t *testing.T) {
	d := dice(99)
	for i := range 50 {
		a := d.rats(i%8, 80)
		if !vec.Same(ratsOf(a), ratsOf(a)) {
			t.Errorf("Same of %s and itself", told(ratsOf(a)))
		}
		for at := range a {
			b := append([]*big.Rat{}, a...)
			b[at] = plus(b[at], big.NewRat(1, 1<<40))
			if vec.Same(ratsOf(a), ratsOf(b)) || vec.Same(ratsOf(b), ratsOf(a)) {
				t.Errorf("Same of %s and %s", told(ratsOf(a)), told(ratsOf(b)))
			}
		}
	}
	if !vec.Same(nil, []api.Rat{}) {
		t.Error("Same of none")
	}
}

func TestSameOfAlmostTheSame(t *testing.T) {
	long, longer := ones(maxBits-7), ones(maxBits)
	all := []*big.Rat{
		new(big.Rat), big.NewRat(1, 1), big.NewRat(-1, 1), big.NewRat(1, 2), big.NewRat(-1, 2), big.NewRat(2, 1), big.NewRat(2, 3), big.NewRat(3, 2),
		frac(power(32), big.NewInt(1)), frac(power(64), big.NewInt(1)), frac(big.NewInt(1), power(32)),
		// These have no room to be compared crosswise.
		frac(longer, long), frac(long, longer), frac(new(big.Int).Neg(longer), long), frac(longer, ones(maxBits-11)),
	}
	for i, a := range all {
		for j, b := range all {
			if got := vec.Same([]api.Rat{ratOf(a)}, []api.Rat{ratOf(b)}); got != (i == j) {
				t.Errorf("Same of %.40s and %.40s: %t", a, b, got)
			}
		}
	}
}
