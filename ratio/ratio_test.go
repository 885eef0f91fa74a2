package ratio_test

import (
	"fmt"
	"math"
	"math/big"
	"testing"

	"girdle/api"
	"girdle/ratio"
	"girdle/whole"
)

func TestMaxPlaces(t *testing.T) {
	if ratio.MaxPlaces != 1000 {
		t.Errorf("MaxPlaces: %d", ratio.MaxPlaces)
	}
}

func TestMake(t *testing.T) {
	d := dice(5)
	for range 400 {
		num, den, by := d.big(d.next(200)), d.big(d.next(200)), d.big(d.next(60))
		num, den = times(num, by), times(den, by)
		got, e := ratio.Make(intOf(num), intOf(den))
		what := fmt.Sprint("Make of ", num, " and ", den)
		if den.Sign() == 0 {
			refuse(t, what, got, e, api.ErrZero)
		} else {
			expect(t, what, got, e, frac(num, den))
		}
	}
}

func TestMakeOfSmall(t *testing.T) {
	for num := int64(-12); num <= 12; num++ {
		for den := int64(-12); den <= 12; den++ {
			got, e := ratio.Make(whole.Of(num), whole.Of(den))
			what := fmt.Sprint(num, " by ", den)
			if den == 0 {
				refuse(t, what, got, e, api.ErrZero)
				refuse(t, what+", by Of", ratio.Of(num, den), api.ErrZero, api.ErrZero)
				continue
			}
			expect(t, what, got, e, big.NewRat(num, den))
			expect(t, what+", by Of", ratio.Of(num, den), api.OK, big.NewRat(num, den))
		}
	}
}

func TestMakeAtTheBound(t *testing.T) {
	most := ones(maxBits)
	for _, x := range [][2]*big.Int{
		{most, small(1)}, {small(1), most}, {most, most}, {most, ones(maxBits - 1)}, {power(maxBits - 1), power(maxBits - 9)},
		{times(ones(maxBits/2), small(6)), times(ones(maxBits/2), small(-4))},
	} {
		got, e := ratio.Make(intOf(x[0]), intOf(x[1]))
		expect(t, fmt.Sprintf("%.30s... by %.30s...", x[0], x[1]), got, e, frac(x[0], x[1]))
	}
	got, e := ratio.Make(intOf(most), api.Int{})
	refuse(t, "the greatest by 0", got, e, api.ErrZero)
}

func TestZero(t *testing.T) {
	expect(t, "Zero", ratio.Zero(), api.OK, new(big.Rat))
}

func TestOfAtTheBound(t *testing.T) {
	list := []int64{math.MinInt64, math.MinInt64 + 1, -1 << 32, -3, 3, 1 << 32, math.MaxInt64}
	for _, num := range list {
		for _, den := range list {
			want := frac(small(num), small(den))
			expect(t, fmt.Sprint("Of ", num, " and ", den), ratio.Of(num, den), api.OK, want)
		}
		refuse(t, "Of by 0", ratio.Of(num, 0), api.ErrZero, api.ErrZero)
	}
}

func TestWhole(t *testing.T) {
	d := dice(9)
	for range 100 {
		n := d.big(d.next(200))
		expect(t, "Whole of "+n.String(), ratio.Whole(intOf(n)), api.OK, new(big.Rat).SetInt(n))
	}
	expect(t, "Whole of 0", ratio.Whole(api.Int{}), api.OK, new(big.Rat))
}

func TestCheck(t *testing.T) {
	for _, r := range ratios() {
		if e := ratio.Check(fromBig(r)); e != api.OK {
			t.Errorf("Check of %s: %d", r, e)
		}
	}
	long := sizeOf(power(maxBits))
	for _, x := range []struct {
		what string
		a    api.Rat
		want api.Errno
	}{
		{"0", api.Rat{Den: api.Nat{1}}, api.OK},
		{"1", api.Rat{Num: api.Int{Size: api.Nat{1}}, Den: api.Nat{1}}, api.OK},
		{"the greatest", api.Rat{Num: intOf(ones(maxBits)), Den: api.Nat{1}}, api.OK},
		{"the least above 0", api.Rat{Num: api.Int{Size: api.Nat{1}}, Den: sizeOf(ones(maxBits))}, api.OK},
		{"0 by 0", api.Rat{}, api.ErrForm},
		{"1 by 0", api.Rat{Num: api.Int{Size: api.Nat{1}}}, api.ErrForm},
		{"7 by 0", api.Rat{Num: api.Int{Size: api.Nat{7}}}, api.ErrForm},
		{"0 by 2", api.Rat{Den: api.Nat{2}}, api.ErrForm},
		{"2 by 4", api.Rat{Num: api.Int{Size: api.Nat{2}}, Den: api.Nat{4}}, api.ErrForm},
		{"-3 by 3", api.Rat{Num: api.Int{Minus: true, Size: api.Nat{3}}, Den: api.Nat{3}}, api.ErrForm},
		{"2^32 by 2^33", api.Rat{Num: api.Int{Size: api.Nat{0, 1}}, Den: api.Nat{0, 2}}, api.ErrForm},
		{"0 below 0", api.Rat{Num: api.Int{Minus: true}, Den: api.Nat{1}}, api.ErrForm},
		{"noughts above", api.Rat{Num: api.Int{Size: api.Nat{1, 0}}, Den: api.Nat{1}}, api.ErrForm},
		{"noughts below", api.Rat{Num: api.Int{Size: api.Nat{1}}, Den: api.Nat{3, 0}}, api.ErrForm},
		{"only noughts below", api.Rat{Num: api.Int{Size: api.Nat{1}}, Den: api.Nat{0}}, api.ErrForm},
		{"too many above", api.Rat{Num: api.Int{Size: long}, Den: api.Nat{1}}, api.ErrLimbs},
		{"too many below", api.Rat{Num: api.Int{Size: api.Nat{1}}, Den: long}, api.ErrLimbs},
		{"too many above, 0 below", api.Rat{Num: api.Int{Size: long}}, api.ErrLimbs},
		{"noughts above, too many below", api.Rat{Num: api.Int{Size: api.Nat{0}}, Den: long}, api.ErrForm},
		{"too many above, noughts below", api.Rat{Num: api.Int{Size: long}, Den: api.Nat{0}}, api.ErrLimbs},
	} {
		if e := ratio.Check(x.a); e != x.want {
			t.Errorf("Check of %s: %d, not %d", x.what, e, x.want)
		}
	}
}

func TestOfOneRatio(t *testing.T) {
	for _, r := range ratios() {
		a := fromBig(r)
		if ratio.Sign(a) != r.Sign() {
			t.Errorf("Sign of %s: %d", r, ratio.Sign(a))
		}
		expect(t, "Neg of "+r.String(), ratio.Neg(a), api.OK, new(big.Rat).Neg(r))
		expect(t, "Abs of "+r.String(), ratio.Abs(a), api.OK, new(big.Rat).Abs(r))
		down, left := new(big.Int).DivMod(r.Num(), r.Denom(), new(big.Int))
		if got := ratio.Floor(a); !sameInt(got, intOf(down)) {
			t.Errorf("Floor of %s: %s", r, whole.Text(got))
		}
		up := down
		if left.Sign() > 0 {
			up = new(big.Int).Add(down, small(1))
		}
		if got := ratio.Ceil(a); !sameInt(got, intOf(up)) {
			t.Errorf("Ceil of %s: %s", r, whole.Text(got))
		}
	}
}

func TestFloorAndCeilAtTheBound(t *testing.T) {
	most := ones(maxBits)
	for _, x := range []struct {
		num, den, floor, ceil *big.Int
	}{
		{most, small(1), most, most},
		{new(big.Int).Neg(most), small(1), new(big.Int).Neg(most), new(big.Int).Neg(most)},
		{most, small(2), ones(maxBits - 1), power(maxBits - 1)},
		{new(big.Int).Neg(most), small(2), new(big.Int).Neg(power(maxBits - 1)), new(big.Int).Neg(ones(maxBits - 1))},
		{small(1), most, small(0), small(1)},
		{small(-1), most, small(-1), small(0)},
		{small(0), small(1), small(0), small(0)},
	} {
		a := api.Rat{Num: intOf(x.num), Den: sizeOf(x.den)}
		if got := ratio.Floor(a); !sameInt(got, intOf(x.floor)) {
			t.Errorf("Floor of %.30s... by %.30s...: %.30s...", x.num, x.den, whole.Text(got))
		}
		if got := ratio.Ceil(a); !sameInt(got, intOf(x.ceil)) {
			t.Errorf("Ceil of %.30s... by %.30s...: %.30s...", x.num, x.den, whole.Text(got))
		}
	}
}

func TestCompare(t *testing.T) {
	for _, x := range ratios() {
		for _, y := range ratios() {
			got, e := ratio.Compare(fromBig(x), fromBig(y))
			if got != x.Cmp(y) || e != api.OK {
				t.Errorf("Compare of %s and %s: %d, error %d", x, y, got, e)
			}
		}
	}
}

// A crosswise product that just has room, and one that just hasn't, on either side.
func TestCompareAtTheBound(t *testing.T) {
	half := maxBits / 2
	for _, x := range []struct {
		a, b *big.Rat
		e    api.Errno
	}{
		{frac(ones(half), small(1)), frac(small(1), ones(half)), api.OK},
		{frac(power(half), small(1)), frac(small(1), power(half-1)), api.OK},
		{frac(power(half), small(1)), frac(small(1), power(half)), api.ErrLimbs},
		{frac(power(half), small(-1)), frac(small(1), power(half)), api.ErrLimbs},
		{frac(ones(maxBits), small(1)), frac(small(1), small(2)), api.ErrLimbs},
		{frac(ones(maxBits), small(1)), frac(power(maxBits-1), small(1)), api.OK},
		{frac(small(1), ones(maxBits)), frac(small(1), power(maxBits-1)), api.OK},
		{frac(small(7), ones(maxBits)), frac(small(-1), power(maxBits-1)), api.ErrLimbs},
		{new(big.Rat), frac(small(1), ones(maxBits)), api.OK},
	} {
		for range 2 {
			want := x.a.Cmp(x.b)
			if x.e != api.OK {
				want = 0
			}
			got, e := ratio.Compare(fromBig(x.a), fromBig(x.b))
			if got != want || e != x.e {
				t.Errorf("Compare of %.30s... and %.30s...: %d, error %d", x.a, x.b, got, e)
			}
			x.a, x.b = x.b, x.a
		}
	}
}
