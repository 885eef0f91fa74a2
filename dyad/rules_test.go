package dyad_test

import (
	"fmt"
	"math"
	"slices"
	"testing"

	"girdle/api"
	"girdle/dyad"
	"girdle/limbs"
	"girdle/ratio"
)

// call is what a call makes of two numbers.
type call func(a, b api.Dyad) (api.Dyad, api.Errno)

// calls: all calls that answer numbers of two, or of one.
func calls() map[string]call {
	alone := func(f func(a api.Dyad) api.Dyad) call {
		return func(a, _ api.Dyad) (api.Dyad, api.Errno) { return f(a), api.OK }
	}
	both := func(f func(a, b api.Dyad) api.Dyad) call {
		return func(a, b api.Dyad) (api.Dyad, api.Errno) { return f(a, b), api.OK }
	}
	list := map[string]call{
		"Neg": alone(dyad.Neg), "Abs": alone(dyad.Abs), "Max": both(dyad.Max), "Min": both(dyad.Min),
		"Add": dyad.Add, "Sub": dyad.Sub, "Mul": dyad.Mul,
	}
	for _, n := range []int{math.MinInt, -1, 0, 2, 7, 64, dyad.MaxExp, math.MaxInt} {
		list[fmt.Sprint("Make with ", n)] = func(a, _ api.Dyad) (api.Dyad, api.Errno) { return dyad.Make(a.Man, n) }
		for _, up := range []bool{false, true} {
			list[fmt.Sprint("Round to ", n, up)] = func(a, _ api.Dyad) (api.Dyad, api.Errno) { return dyad.Round(a, n, up) }
			list[fmt.Sprint("Near of ", n, up)] = func(a, b api.Dyad) (api.Dyad, api.Errno) {
				return dyad.Near(api.Rat{Num: a.Man, Den: b.Man.Size}, n, up)
			}
		}
	}
	return list
}

// roomy: a number with spare room behind its digits, all of it filled.
func roomy(n number) (api.Dyad, []uint32) {
	a := n.dyad()
	all := append(a.Man.Size, 77, 88, 99, 111)
	a.Man.Size = all[:len(a.Man.Size)]
	return a, all
}

// spoil: write over digits, and their spare room.
func spoil(list ...[]uint32) {
	for _, a := range list {
		for i := range a[:cap(a)] {
			a[:cap(a)][i] = 0xdead
		}
	}
}

// own: the same number in memory of its own.
func own(a api.Dyad) api.Dyad {
	a.Man.Size = slices.Clone(a.Man.Size)
	return a
}

// some: few numbers, with what calls go different ways for.
func some() []number {
	return []number{
		of(0, 0), of(1, 0), of(-1, 0), of(5, -2), of(-3, 1), of(21, 40), of(-31, -33), lowest(ones(65), -7), lowest(ones(200), 0).minus(), of(1, dyad.MaxExp), of(-1, -dyad.MaxExp),
	}
}

func TestArgumentsStayAsTheyAre(t *testing.T) {
	for name, call := range calls() {
		for _, x := range some() {
			for _, y := range some() {
				a, allA := roomy(x)
				b, allB := roomy(y)
				wasA, wasB := slices.Clone(allA), slices.Clone(allB)
				first, e := call(a, b)
				if !slices.Equal(allA, wasA) || !slices.Equal(allB, wasB) {
					t.Fatalf("%s of %s and %s changed them", name, x, y)
				}
				second, again := call(a, b)
				if e != again || !sameDyad(first, second) {
					t.Fatalf("%s of %s and %s: not twice the same", name, x, y)
				}
			}
		}
	}
}

// What is answered shares no memory with what was handed in, nor with a later
// answer. (A number that is answered as it was handed in might share it; here none
// does.)
func TestAnswersAreNewMemory(t *testing.T) {
	for name, call := range calls() {
		for _, x := range some() {
			for _, y := range some() {
				checkMemory(t, name, call, x, y)
			}
		}
	}
}

func checkMemory(t *testing.T, name string, call call, x, y number) {
	t.Helper()
	a, allA := roomy(x)
	b, allB := roomy(y)
	wasA, wasB := slices.Clone(allA), slices.Clone(allB)
	got, _ := call(a, b)
	want := own(got)
	spoil(got.Man.Size)
	if !slices.Equal(allA, wasA) || !slices.Equal(allB, wasB) {
		t.Fatalf("%s of %s and %s: the answer shares memory with them", name, x, y)
	}
	if got, _ = call(a, b); !sameDyad(got, want) {
		t.Fatalf("%s of %s and %s: an answer shares memory with a later one", name, x, y)
	}
	spoil(allA, allB)
	if !sameDyad(got, want) {
		t.Fatalf("%s of %s and %s: they share memory with the answer", name, x, y)
	}
}

func TestRatioIsNewMemory(t *testing.T) {
	for _, x := range some() {
		a, all := roomy(x)
		was := slices.Clone(all)
		got, e := dyad.Ratio(a)
		want := api.Rat{Num: api.Int{Minus: got.Num.Minus, Size: slices.Clone(got.Num.Size)}, Den: slices.Clone(got.Den)}
		spoil(got.Num.Size)
		if !slices.Equal(got.Den, want.Den) {
			t.Fatalf("Ratio of %s: what stands above shares memory with what stands below", x)
		}
		spoil(got.Den)
		if !slices.Equal(all, was) {
			t.Fatalf("Ratio of %s shares memory with it", x)
		}
		got, again := dyad.Ratio(a)
		if e != again || !sameRat(got, want) {
			t.Fatalf("Ratio of %s shares memory with a later one", x)
		}
		spoil(all)
		if !sameRat(got, want) {
			t.Fatalf("%s shares memory with its Ratio", x)
		}
	}
}

// wrong: what is no number, short and long, beside some that are.
func wrong() []api.Dyad {
	var list []api.Dyad
	for _, size := range []api.Nat{
		nil, {1}, {2}, {0}, {1, 0}, {0, 0, 6, 0}, sizeOf(ones(maxBits)), make(api.Nat, limbs.MaxLimbs+1), sizeOf(power(maxBits)), sizeOf(ones(2 * maxBits)),
	} {
		for _, exp := range []int{0, 3, -3, dyad.MaxExp, -dyad.MaxExp, dyad.MaxExp + 1, math.MaxInt, math.MinInt} {
			list = append(list, api.Dyad{Man: api.Int{Size: size}, Exp: exp}, api.Dyad{Man: api.Int{Minus: true, Size: size}, Exp: exp})
		}
	}
	return list
}

// All calls end at all arguments, and none panics; and an error stands alone.
func TestWrongNumbers(t *testing.T) {
	callAll(t, wrong(), wrong())
}

// Nor does it take for ever: digit by digit these would be multiplied, or divided, for hours.
func TestHugeNumbers(t *testing.T) {
	huge := sizeOf(ones(1 << 26))
	list := []api.Dyad{
		{Man: api.Int{Size: huge}}, {Man: api.Int{Minus: true, Size: huge}, Exp: -dyad.MaxExp}, {Man: api.Int{Size: huge}, Exp: math.MaxInt},
		{Man: api.Int{Minus: true, Size: sizeOf(power(1 << 26))}, Exp: 7}, of(-5, 3).dyad(),
	}
	callAll(t, list, list)
}

func callAll(t *testing.T, list, others []api.Dyad) {
	t.Helper()
	for _, a := range list {
		dyad.Check(a)
		dyad.Sign(a)
		if r, e := dyad.Ratio(a); e != api.OK && !sameRat(r, ratio.Zero()) {
			t.Errorf("Ratio: error %d and more", e)
		}
		for _, b := range others {
			dyad.Compare(a, b)
			dyad.Less(a, b)
			if n, e := dyad.Cmp(a, api.Rat{Num: b.Man, Den: a.Man.Size}); e != api.OK && n != 0 {
				t.Errorf("Cmp: error %d and %d", e, n)
			}
			for name, call := range calls() {
				got, e := call(a, b)
				if e != api.OK {
					refuse(t, name, got, e, e)
				}
			}
		}
	}
}

func TestOfTakesAll(t *testing.T) {
	for _, n := range []int64{math.MinInt64, -2, -1, 0, 1, 2, math.MaxInt64} {
		for _, exp := range []int{math.MinInt, -101, 0, 101, math.MaxInt} {
			if e := dyad.Check(dyad.Of(n, exp)); e != api.OK {
				t.Errorf("Of(%d, %d): Check tells %d", n, exp, e)
			}
		}
	}
}
