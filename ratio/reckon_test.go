package ratio_test

import (
	"fmt"
	"math/big"
	"testing"

	"girdle/api"
	"girdle/ratio"
)

// operation is one of two ratios, beside the library's.
type operation struct {
	name string
	call func(a, b api.Rat) (api.Rat, api.Errno)
	want func(a, b *big.Rat) *big.Rat
}

func operations() []operation {
	return []operation{
		{"Add", ratio.Add, func(a, b *big.Rat) *big.Rat { return new(big.Rat).Add(a, b) }},
		{"Sub", ratio.Sub, func(a, b *big.Rat) *big.Rat { return new(big.Rat).Sub(a, b) }},
		{"Mul", ratio.Mul, func(a, b *big.Rat) *big.Rat { return new(big.Rat).Mul(a, b) }},
		{"Div", ratio.Div, func(a, b *big.Rat) *big.Rat { return new(big.Rat).Quo(a, b) }},
	}
}

func TestOfTwoRatios(t *testing.T) {
	for _, op := range operations() {
		for _, x := range ratios() {
			for _, y := range ratios() {
				got, e := op.call(fromBig(x), fromBig(y))
				what := fmt.Sprint(op.name, " of ", x, " and ", y)
				if op.name == "Div" && y.Sign() == 0 {
					refuse(t, what, got, e, api.ErrZero)
				} else {
					expect(t, what, got, e, op.want(x, y))
				}
			}
		}
	}
}

// refused are the operations of that name that have no room.
type refused map[string]bool

// Each product that is formed, and each sum, may just have room, or just not.
func TestAtTheBound(t *testing.T) {
	half := maxBits / 2
	all := refused{"Add": true, "Sub": true, "Mul": true, "Div": true}
	for _, x := range []struct {
		what string
		a, b *big.Rat
		no   refused
	}{
		{"great and great", frac(power(half), small(1)), frac(power(half), small(1)), refused{"Mul": true}},
		{"just not so great", frac(power(half), small(1)), frac(power(half-1), small(1)), refused{}},
		{"the greatest and 1", frac(ones(maxBits), small(1)), frac(small(1), small(1)), refused{"Add": true}},
		{"the greatest and -1", frac(ones(maxBits), small(1)), frac(small(-1), small(1)), refused{"Sub": true}},
		{"the greatest and 0", frac(ones(maxBits), small(1)), frac(small(0), small(1)), refused{}},
		{"the greatest, twice", frac(ones(maxBits), small(1)), frac(ones(maxBits), small(1)), refused{"Add": true, "Mul": true}},
		{"the greatest and a half", frac(ones(maxBits), small(1)), frac(small(1), small(2)), refused{"Add": true, "Sub": true, "Div": true}},
		{"the least and a third", frac(small(1), ones(maxBits)), frac(small(1), small(3)), refused{"Add": true, "Sub": true, "Mul": true}},
		{"the least and three", frac(small(1), power(maxBits-1)), frac(small(3), small(1)), refused{"Add": true, "Sub": true, "Div": true}},
		{"far below 0", frac(small(-1), power(half)), frac(small(1), power(half)), refused{"Add": true, "Sub": true, "Mul": true}},
		{"not so far", frac(small(-1), power(half)), frac(small(1), power(half-1)), refused{}},
		{"crosswise both", frac(power(half), ones(half)), frac(ones(half+2), power(half)), all},
		{"above 1 both", frac(power(half), ones(half-3)), frac(power(half), ones(half-1)), refused{"Mul": true}},
	} {
		for _, op := range operations() {
			got, e := op.call(fromBig(x.a), fromBig(x.b))
			if x.no[op.name] {
				refuse(t, op.name+" of "+x.what, got, e, api.ErrLimbs)
			} else if op.name != "Div" || x.b.Sign() != 0 {
				expect(t, op.name+" of "+x.what, got, e, op.want(x.a, x.b))
			}
		}
	}
}

// ErrZero is named ahead of ErrLimbs.
func TestDivByZero(t *testing.T) {
	for _, a := range []*big.Rat{new(big.Rat), big.NewRat(-3, 4), frac(ones(maxBits), small(1)), frac(small(1), ones(maxBits))} {
		got, e := ratio.Div(fromBig(a), ratio.Zero())
		refuse(t, "by 0", got, e, api.ErrZero)
	}
}

func TestSum(t *testing.T) {
	got, e := ratio.Sum()
	expect(t, "none", got, e, new(big.Rat))
	d := dice(31)
	for range 200 {
		var all []api.Rat
		want := new(big.Rat)
		for range d.next(8) {
			r := d.rat(1 + d.next(60))
			all = append(all, fromBig(r))
			want.Add(want, r)
		}
		got, e = ratio.Sum(all...)
		expect(t, fmt.Sprint("the sum of ", all), got, e, want)
	}
}

// It goes on from the first to the last: where there is no room on the way, it is refused.
func TestSumGoesInOrder(t *testing.T) {
	most, one, other := fromBig(frac(ones(maxBits), small(1))), ratio.Of(1, 1), ratio.Of(-1, 1)
	got, e := ratio.Sum(most, one, other)
	refuse(t, "the greatest, 1 and -1", got, e, api.ErrLimbs)
	got, e = ratio.Sum(most, other, one)
	expect(t, "the greatest, -1 and 1", got, e, frac(ones(maxBits), small(1)))
	got, e = ratio.Sum(one, other, most)
	expect(t, "1, -1 and the greatest", got, e, frac(ones(maxBits), small(1)))
	got, e = ratio.Sum(most)
	expect(t, "the greatest alone", got, e, frac(ones(maxBits), small(1)))
}
