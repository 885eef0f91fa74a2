package dyad_test

import (
	"fmt"
	"math"
	"math/big"
	"testing"

	"girdle/api"
	"girdle/dyad"
	"girdle/whole"
)

func TestBounds(t *testing.T) {
	if dyad.MaxExp != 65536 || dyad.MinBits != 2 || dyad.MaxBits != 4096 {
		t.Errorf("MaxExp %d, MinBits %d, MaxBits %d", dyad.MaxExp, dyad.MinBits, dyad.MaxBits)
	}
}

func TestMake(t *testing.T) {
	d := dice(99)
	for range 500 {
		man, exp := at(d.big(d.next(150)), d.next(80)), d.next(400)-200
		got, e := dyad.Make(intOf(man), exp)
		expect(t, fmt.Sprint("Make of ", man, " and ", exp), got, e, lowest(man, exp))
	}
	got, e := dyad.Make(whole.Of(12), 3)
	expect(t, "12 times 8", got, e, of(3, 5))
	got, e = dyad.Make(whole.Of(-12), -3)
	expect(t, "-12 by 8", got, e, of(-3, -1))
}

func TestMakeAtTheBounds(t *testing.T) {
	for _, x := range []struct {
		man  *big.Int
		exp  int
		want api.Errno
	}{
		{small(1), dyad.MaxExp, api.OK},
		{small(-1), dyad.MaxExp, api.OK},
		{small(1), dyad.MaxExp + 1, api.ErrRange},
		{small(-1), dyad.MaxExp + 1, api.ErrRange},
		{small(2), dyad.MaxExp - 1, api.OK},
		{small(2), dyad.MaxExp, api.ErrRange}, // the exponent that it would have
		{small(-8), dyad.MaxExp - 3, api.OK},
		{small(-8), dyad.MaxExp - 2, api.ErrRange},
		{small(1), -dyad.MaxExp, api.OK},
		{small(2), -dyad.MaxExp, api.OK},
		{small(1), -dyad.MaxExp - 1, api.ErrRange},
		{small(2), -dyad.MaxExp - 1, api.ErrRange}, // exp itself, though it would have one that may be
		{small(-1 << 40), -dyad.MaxExp - 20, api.ErrRange},
		{power(maxBits - 1), dyad.MaxExp - maxBits + 1, api.OK},
		{power(maxBits - 1), dyad.MaxExp - maxBits + 2, api.ErrRange},
		{ones(maxBits), dyad.MaxExp, api.OK},
		{ones(maxBits), -dyad.MaxExp, api.OK},
		{small(1), math.MaxInt, api.ErrRange},
		{small(2), math.MaxInt, api.ErrRange},
		{small(1), math.MinInt, api.ErrRange},
	} {
		got, e := dyad.Make(intOf(x.man), x.exp)
		what := fmt.Sprint("Make of ", short(x.man.String()), " and ", x.exp)
		if x.want != api.OK {
			refuse(t, what, got, e, x.want)
			continue
		}
		expect(t, what, got, e, lowest(x.man, x.exp))
	}
}

// 0 is both 0, whatever the exponent that is handed in.
func TestMakeOfNothing(t *testing.T) {
	for _, exp := range []int{0, 5, -5, dyad.MaxExp, dyad.MaxExp + 1, -dyad.MaxExp - 1, math.MaxInt, math.MinInt} {
		got, e := dyad.Make(api.Int{}, exp)
		expect(t, fmt.Sprint("Make of 0 and ", exp), got, e, of(0, 0))
		expect(t, fmt.Sprint("Of 0 and ", exp), dyad.Of(0, exp), api.OK, of(0, 0))
	}
}

func TestOf(t *testing.T) {
	for _, n := range []int64{1, -1, 2, 3, -6, 96, 1<<32 + 1, math.MaxInt64, math.MinInt64, math.MinInt64 + 1} {
		for _, x := range [][2]int{
			{0, 0}, {1, 1}, {-1, -1}, {99, 99}, {100, 100}, {101, 100}, {200, 100}, {math.MaxInt, 100},
			{-99, -99}, {-100, -100}, {-101, -100}, {-dyad.MaxExp, -100}, {math.MinInt, -100},
		} {
			expect(t, fmt.Sprint("Of ", n, " and ", x[0]), dyad.Of(n, x[0]), api.OK, of(n, x[1]))
		}
	}
}

func TestCheck(t *testing.T) {
	for _, n := range append(numbers(), bounds()...) {
		if e := dyad.Check(n.dyad()); e != api.OK {
			t.Errorf("Check of %s: %d", n, e)
		}
	}
	for _, x := range []struct {
		what string
		a    api.Dyad
		want api.Errno
	}{
		{"an even one", api.Dyad{Man: whole.Of(2)}, api.ErrForm},
		{"an even one below 0", api.Dyad{Man: whole.Of(-6), Exp: 3}, api.ErrForm},
		{"even by its last digit", api.Dyad{Man: api.Int{Size: api.Nat{0, 1}}}, api.ErrForm},
		{"0 with an exponent", api.Dyad{Exp: 1}, api.ErrForm},
		{"0 with one below 0", api.Dyad{Exp: -1}, api.ErrForm},
		{"0 with one at the bound", api.Dyad{Exp: dyad.MaxExp}, api.ErrForm},
		{"0 with one beyond", api.Dyad{Exp: dyad.MaxExp + 1}, api.ErrRange},
		{"an exponent beyond", api.Dyad{Man: whole.Of(1), Exp: dyad.MaxExp + 1}, api.ErrRange},
		{"one below", api.Dyad{Man: whole.Of(1), Exp: -dyad.MaxExp - 1}, api.ErrRange},
		{"the greatest", api.Dyad{Man: whole.Of(1), Exp: math.MaxInt}, api.ErrRange},
		{"the least", api.Dyad{Man: whole.Of(-1), Exp: math.MinInt}, api.ErrRange},
		{"an even one, beyond", api.Dyad{Man: whole.Of(2), Exp: dyad.MaxExp + 1}, api.ErrRange},
		{"0 below 0", api.Dyad{Man: api.Int{Minus: true}}, api.ErrForm},
		{"0 below 0, beyond", api.Dyad{Man: api.Int{Minus: true}, Exp: dyad.MaxExp + 1}, api.ErrForm},
		{"a nought at the end", api.Dyad{Man: api.Int{Size: api.Nat{1, 0}}}, api.ErrForm},
		{"a nought at the end, beyond", api.Dyad{Man: api.Int{Size: api.Nat{1, 0}}, Exp: math.MinInt}, api.ErrForm},
		{"nothing but a nought", api.Dyad{Man: api.Int{Size: api.Nat{0}}}, api.ErrForm},
		{"too many digits", api.Dyad{Man: intOf(ones(maxBits + 1))}, api.ErrLimbs},
		{"too many digits, beyond", api.Dyad{Man: intOf(ones(maxBits + 1)), Exp: dyad.MaxExp + 1}, api.ErrLimbs},
		{"too many digits, even", api.Dyad{Man: intOf(power(maxBits))}, api.ErrLimbs},
	} {
		if e := dyad.Check(x.a); e != x.want {
			t.Errorf("Check of %s: %d, not %d", x.what, e, x.want)
		}
	}
}

func TestSignNegAbs(t *testing.T) {
	for _, n := range append(numbers(), bounds()...) {
		a := n.dyad()
		if dyad.Sign(a) != n.man.Sign() {
			t.Errorf("Sign of %s: %d", n, dyad.Sign(a))
		}
		expect(t, "Neg of "+n.String(), dyad.Neg(a), api.OK, n.minus())
		expect(t, "Abs of "+n.String(), dyad.Abs(a), api.OK, number{new(big.Int).Abs(n.man), n.exp})
	}
}

// comparing: do all calls that compare two numbers answer as the library does?
func comparing(t *testing.T, list []number) {
	t.Helper()
	values := make([]*big.Rat, len(list))
	for i, n := range list {
		values[i] = n.value()
	}
	for i, x := range list {
		for k, y := range list {
			a, b := x.dyad(), y.dyad()
			want := values[i].Cmp(values[k])
			if got := dyad.Compare(a, b); got != want {
				t.Fatalf("Compare of %s and %s: %d", x, y, got)
			}
			if dyad.Less(a, b) != (want < 0) {
				t.Fatalf("Less of %s and %s", x, y)
			}
			greater, lesser := x, y
			if want < 0 {
				greater, lesser = y, x
			}
			expect(t, fmt.Sprint("Max of ", x, " and ", y), dyad.Max(a, b), api.OK, greater)
			expect(t, fmt.Sprint("Min of ", x, " and ", y), dyad.Min(a, b), api.OK, lesser)
		}
	}
}

func TestCompare(t *testing.T) {
	comparing(t, numbers())
	comparing(t, bounds())
}

// Where numbers are far apart, or have their highest bit at one place, though
// nothing else is the same.
func TestCompareFarAndNear(t *testing.T) {
	comparing(t, []number{
		of(1, dyad.MaxExp), of(1, -dyad.MaxExp), of(-1, dyad.MaxExp), of(-1, -dyad.MaxExp), of(0, 0),
		lowest(ones(maxBits), dyad.MaxExp-maxBits), of(1, dyad.MaxExp-1), of(3, dyad.MaxExp-1), of(3, dyad.MaxExp-2),
		lowest(ones(maxBits), 0), of(1, maxBits), of(1, maxBits-1), of(3, maxBits-2), lowest(ones(maxBits-1), 1), lowest(ones(maxBits-1), 0),
		of(1, 0), lowest(ones(maxBits), -maxBits), lowest(new(big.Int).Add(power(maxBits-1), small(1)), 1-maxBits),
		of(-1, 0), lowest(ones(maxBits), -maxBits).minus(), of(5, -2), of(5, -3), of(-5, -2), of(9, -3), of(11, -3), of(-11, -3),
	})
}
