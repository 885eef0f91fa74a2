package ratio_test

import (
	"math"
	"math/big"
	"slices"
	"testing"

	"girdle/api"
	"girdle/limbs"
	"girdle/ratio"
)

// call is what a call makes of two ratios.
type call func(a, b api.Rat) (api.Rat, api.Errno)

// calls: all calls that answer numbers; whole ones are answered as what stands above.
func calls() map[string]call {
	alone := func(f func(a api.Rat) api.Rat) call {
		return func(a, _ api.Rat) (api.Rat, api.Errno) { return f(a), api.OK }
	}
	number := func(f func(a api.Rat) api.Int) call {
		return func(a, _ api.Rat) (api.Rat, api.Errno) { return api.Rat{Num: f(a)}, api.OK }
	}
	list := map[string]call{
		"Make":        func(a, b api.Rat) (api.Rat, api.Errno) { return ratio.Make(a.Num, b.Num) },
		"Zero":        alone(func(_ api.Rat) api.Rat { return ratio.Zero() }),
		"Whole":       alone(func(a api.Rat) api.Rat { return ratio.Whole(a.Num) }),
		"Sum of none": func(_, _ api.Rat) (api.Rat, api.Errno) { return ratio.Sum() },
		"Sum of one":  func(a, _ api.Rat) (api.Rat, api.Errno) { return ratio.Sum(a) },
		"Sum":         func(a, b api.Rat) (api.Rat, api.Errno) { return ratio.Sum(a, b, a) },
		"Neg":         alone(ratio.Neg),
		"Abs":         alone(ratio.Abs),
		"Floor":       number(ratio.Floor),
		"Ceil":        number(ratio.Ceil),
	}
	for _, op := range operations() {
		list[op.name] = op.call
	}
	return list
}

// roomy: a ratio with spare room behind both its numbers, all of it filled.
func roomy(r *big.Rat) (api.Rat, [2][]uint32) {
	a := fromBig(r)
	num, den := append(a.Num.Size, 77, 88, 99), append(a.Den, 77, 88, 99)
	a.Num.Size, a.Den = num[:len(num)-3], den[:len(den)-3]
	return a, [2][]uint32{num, den}
}

func clones(all [2][]uint32) [2][]uint32 {
	return [2][]uint32{slices.Clone(all[0]), slices.Clone(all[1])}
}

func sameDigits(a, b [2][]uint32) bool {
	return slices.Equal(a[0], b[0]) && slices.Equal(a[1], b[1])
}

// spoil: write over digits, and their spare room.
func spoil(list ...[]uint32) {
	for _, a := range list {
		for i := range a[:cap(a)] {
			a[:cap(a)][i] = 0xdead
		}
	}
}

// some: few ratios, with what calls go different ways for.
func some() []*big.Rat {
	return []*big.Rat{
		new(big.Rat), big.NewRat(1, 1), big.NewRat(-1, 1), big.NewRat(6, 1), big.NewRat(-7, 4), big.NewRat(4, 7), big.NewRat(1, 2), big.NewRat(-5, 6),
		frac(power(40), small(3)), frac(small(-3), power(40)), frac(power(100), ones(65)),
	}
}

func TestArgumentsStayAsTheyAre(t *testing.T) {
	for name, call := range calls() {
		for _, x := range some() {
			for _, y := range some() {
				a, allA := roomy(x)
				b, allB := roomy(y)
				wasA, wasB := clones(allA), clones(allB)
				first, e := call(a, b)
				if !sameDigits(allA, wasA) || !sameDigits(allB, wasB) {
					t.Fatalf("%s of %s and %s changed them", name, x, y)
				}
				second, again := call(a, b)
				if e != again || !sameRat(first, second) {
					t.Fatalf("%s of %s and %s: not twice the same", name, x, y)
				}
			}
		}
	}
}

// What is answered shares no memory with what was handed in, nor with itself.
// (A number that is answered as it was handed in might share it; here none does.)
func TestAnswersAreNewMemory(t *testing.T) {
	for name, call := range calls() {
		for _, x := range some() {
			for _, y := range some() {
				checkMemory(t, name, call, x, y)
			}
		}
	}
}

func checkMemory(t *testing.T, name string, call call, x, y *big.Rat) {
	t.Helper()
	a, allA := roomy(x)
	b, allB := roomy(y)
	wasA, wasB := clones(allA), clones(allB)
	got, _ := call(a, b)
	want := api.Rat{Num: api.Int{Minus: got.Num.Minus, Size: slices.Clone(got.Num.Size)}, Den: slices.Clone(got.Den)}
	spoil(got.Num.Size)
	if !slices.Equal(got.Den, want.Den) {
		t.Fatalf("%s of %s and %s: what stands above shares memory with what stands below", name, x, y)
	}
	spoil(got.Den)
	if !sameDigits(allA, wasA) || !sameDigits(allB, wasB) {
		t.Fatalf("%s of %s and %s: the answer shares memory with them", name, x, y)
	}
	if got, _ = call(a, b); !sameRat(got, want) {
		t.Fatalf("%s of %s and %s: an answer shares memory with a later one", name, x, y)
	}
	spoil(allA[0], allA[1], allB[0], allB[1])
	if !sameRat(got, want) {
		t.Fatalf("%s of %s and %s: they share memory with the answer", name, x, y)
	}
}

// A list that is handed in isn't changed either.
func TestSumKeepsItsList(t *testing.T) {
	list := []api.Rat{ratio.Of(1, 2), ratio.Of(-1, 3), ratio.Of(5, 1)}
	was := []api.Rat{ratio.Of(1, 2), ratio.Of(-1, 3), ratio.Of(5, 1)}
	got, e := ratio.Sum(list...)
	expect(t, "the sum", got, e, big.NewRat(31, 6))
	if !slices.EqualFunc(list, was, sameRat) {
		t.Error("Sum changed its list")
	}
}

func TestOfAndParseAreNewMemory(t *testing.T) {
	for range 2 {
		for s, want := range map[string]*big.Rat{"3/4": big.NewRat(3, 4), "-2.5": big.NewRat(-5, 2), "7": big.NewRat(7, 1), "0": new(big.Rat)} {
			got, e := ratio.Parse(s)
			expect(t, "Parse, again", got, e, want)
			spoil(got.Num.Size, got.Den)
		}
		got := ratio.Of(-3, 4)
		expect(t, "Of, again", got, api.OK, big.NewRat(-3, 4))
		spoil(got.Num.Size, got.Den)
		got, e := ratio.Make(api.Int{}, api.Int{})
		refuse(t, "Make of 0 and 0, again", got, e, api.ErrZero)
		spoil(got.Den)
	}
}

// wrong: what is no ratio, short and long, beside some that are.
func wrong() []api.Rat {
	sizes := []api.Nat{
		nil, {1}, {6}, {0}, {1, 0}, {0, 0, 5, 0}, sizeOf(ones(maxBits)), make(api.Nat, limbs.MaxLimbs+1), sizeOf(power(maxBits)),
	}
	var list []api.Rat
	for _, num := range sizes {
		for _, den := range sizes {
			list = append(list, api.Rat{Num: api.Int{Size: num}, Den: den}, api.Rat{Num: api.Int{Minus: true, Size: num}, Den: den})
		}
	}
	return list
}

// All calls end at all arguments, and none panics.
func TestWrongRatios(t *testing.T) {
	list := wrong()
	others := []api.Rat{{}, ratio.Of(-3, 4), {Num: intOf(ones(maxBits)), Den: api.Nat{0, 1}}, list[len(list)-1], list[len(list)/2]}
	callAll(t, list, others)
	callAll(t, others, list)
}

// Nor does it take for ever: digit by digit these would be multiplied, or divided, for hours.
func TestHugeRatios(t *testing.T) {
	huge := sizeOf(ones(1 << 26))
	list := []api.Rat{
		ratio.Of(2, 3), {Num: api.Int{Size: huge}, Den: api.Nat{3}}, {Num: api.Int{Minus: true, Size: api.Nat{3}}, Den: huge}, {Num: api.Int{Minus: true, Size: huge}, Den: huge},
	}
	callAll(t, list, list)
}

func callAll(t *testing.T, list, others []api.Rat) {
	t.Helper()
	for _, a := range list {
		ratio.Check(a)
		ratio.Sign(a)
		ratio.Text(a)
		for _, b := range others {
			if n, e := ratio.Compare(a, b); e != api.OK && n != 0 {
				t.Errorf("Compare: error %d and %d", e, n)
			}
			for name, call := range calls() {
				got, e := call(a, b)
				if e != api.OK {
					refuse(t, name, got, e, e)
				}
			}
		}
	}
}

func TestOfTakesAll(t *testing.T) {
	for _, n := range []int64{math.MinInt64, -1, 0, 1, math.MaxInt64} {
		for _, m := range []int64{math.MinInt64, -1, 0, 1, math.MaxInt64} {
			if e := ratio.Check(ratio.Of(n, m)); e != api.OK {
				t.Errorf("Of(%d, %d): Check tells %d", n, m, e)
			}
		}
	}
}
