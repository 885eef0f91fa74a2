package whole_test

import (
	"fmt"
	"math"
	"math/big"
	"slices"
	"testing"

	"girdle/api"
	"girdle/limbs"
	"girdle/whole"
)

// call is what a call makes of two numbers.
type call func(a, b api.Int) ([]api.Int, api.Errno)

// calls: all calls that answer numbers.
func calls() map[string]call {
	alone := func(f func(a api.Int) api.Int) call {
		return func(a, _ api.Int) ([]api.Int, api.Errno) { return []api.Int{f(a)}, api.OK }
	}
	both := func(f func(a, b api.Int) (api.Int, api.Errno)) call {
		return func(a, b api.Int) ([]api.Int, api.Errno) {
			got, e := f(a, b)
			return []api.Int{got}, e
		}
	}
	list := map[string]call{
		"Nat": alone(func(a api.Int) api.Int { return whole.Nat(a.Size) }),
		"Neg": alone(whole.Neg), "Abs": alone(whole.Abs),
		"Add": both(whole.Add), "Sub": both(whole.Sub), "Mul": both(whole.Mul),
		"Sum of none": both(func(_, _ api.Int) (api.Int, api.Errno) { return whole.Sum() }),
		"Sum of one":  both(func(a, _ api.Int) (api.Int, api.Errno) { return whole.Sum(a) }),
		"Sum":         both(func(a, b api.Int) (api.Int, api.Errno) { return whole.Sum(a, b, a) }),
		"Div": func(a, b api.Int) ([]api.Int, api.Errno) {
			often, rest, e := whole.Div(a, b)
			return []api.Int{often, rest}, e
		},
	}
	for _, n := range []int{math.MinInt, -1, 0, 1, 31, 32, 33, 64, maxBits, math.MaxInt} {
		list[fmt.Sprint("Left by ", n)] = both(func(a, _ api.Int) (api.Int, api.Errno) { return whole.Left(a, n) })
		list[fmt.Sprint("Right by ", n)] = both(func(a, _ api.Int) (api.Int, api.Errno) { return whole.Right(a, n) })
	}
	return list
}

// roomy: a number with spare room behind its size, all of it filled.
func roomy(n *big.Int) (api.Int, []uint32) {
	a := fromBig(n)
	all := append(a.Size, 77, 88, 99, 111)
	a.Size = all[:len(a.Size)]
	return a, all
}

// spoil: write over a number's size, and its spare room.
func spoil(a api.Nat) {
	for i := range a[:cap(a)] {
		a[:cap(a)][i] = 0xdead
	}
}

// copies: the same numbers in memory of their own.
func copies(list []api.Int) []api.Int {
	var own []api.Int
	for _, a := range list {
		own = append(own, api.Int{Minus: a.Minus, Size: slices.Clone(a.Size)})
	}
	return own
}

func sameInts(a, b []api.Int) bool { return slices.EqualFunc(a, b, sameInt) }

func TestArgumentsStayAsTheyAre(t *testing.T) {
	for name, call := range calls() {
		for _, x := range edges() {
			for _, y := range edges() {
				a, allA := roomy(x)
				b, allB := roomy(y)
				wasA, wasB := slices.Clone(allA), slices.Clone(allB)
				first, e := call(a, b)
				if !slices.Equal(allA, wasA) || !slices.Equal(allB, wasB) {
					t.Fatalf("%s of %s and %s changed them", name, x, y)
				}
				second, again := call(a, b)
				if e != again || !sameInts(first, second) {
					t.Fatalf("%s of %s and %s: not twice the same", name, x, y)
				}
			}
		}
	}
}

// What is answered shares no memory with what was handed in, nor with what else
// is answered: where one is written over, the others stay as they are. (A number
// that is answered as it was handed in might share it; here none does.)
func TestAnswersAreNewMemory(t *testing.T) {
	for name, call := range calls() {
		for _, x := range edges() {
			for _, y := range edges() {
				checkMemory(t, name, call, x, y)
			}
		}
	}
}

func checkMemory(t *testing.T, name string, call call, x, y *big.Int) {
	t.Helper()
	a, allA := roomy(x)
	b, allB := roomy(y)
	wasA, wasB := slices.Clone(allA), slices.Clone(allB)
	got, _ := call(a, b)
	want := copies(got)
	for i := range got {
		spoil(got[i].Size)
		for k := i + 1; k < len(got); k++ {
			if !sameInt(got[k], want[k]) {
				t.Fatalf("%s of %s and %s: its answers share memory", name, x, y)
			}
		}
	}
	if !slices.Equal(allA, wasA) || !slices.Equal(allB, wasB) {
		t.Fatalf("%s of %s and %s: an answer shares memory with them", name, x, y)
	}
	if got, _ = call(a, b); !sameInts(got, want) {
		t.Fatalf("%s of %s and %s: an answer shares memory with a later one", name, x, y)
	}
	spoil(allA)
	spoil(allB)
	if !sameInts(got, want) {
		t.Fatalf("%s of %s and %s: they share memory with an answer", name, x, y)
	}
}

// A list that is handed in isn't changed either.
func TestSumKeepsItsList(t *testing.T) {
	list := []api.Int{whole.Of(5), whole.Of(-7), whole.Of(1 << 40)}
	was := copies(list)
	got, e := whole.Sum(list...)
	expect(t, "the sum", got, e, small(1<<40-2))
	if !sameInts(list, was) {
		t.Error("Sum changed its list")
	}
}

func TestOfAndParseAreNewMemory(t *testing.T) {
	for _, n := range []int64{0, 7, -7, 1<<32 + 7, math.MinInt64} {
		spoil(whole.Of(n).Size)
		expect(t, "Of, again", whole.Of(n), api.OK, small(n))
		first, _ := whole.Parse(fmt.Sprint(n))
		spoil(first.Size)
		second, e := whole.Parse(fmt.Sprint(n))
		expect(t, "Parse, again", second, e, small(n))
	}
}

// wrong: what is no number, short and long, beside some that are.
func wrong() []api.Int {
	var list []api.Int
	for _, size := range []api.Nat{
		nil, {}, {1}, {7, 7}, {0}, {0, 0}, {1, 0}, {0, 1, 0}, {5, 0, 0, 0}, sizeOf(ones(maxBits)),
		make(api.Nat, limbs.MaxLimbs), make(api.Nat, limbs.MaxLimbs+1), append(sizeOf(ones(maxBits)), 0),
		sizeOf(power(maxBits)), sizeOf(ones(maxBits + 1)), sizeOf(ones(2 * maxBits)),
	} {
		list = append(list, api.Int{Size: size}, api.Int{Minus: true, Size: size})
	}
	return list
}

// All calls end at all arguments, and none panics; and an error stands alone.
func TestWrongNumbers(t *testing.T) {
	callAll(t, wrong())
}

// Nor does it take for ever: digit by digit these would be multiplied, or divided, for hours.
func TestHugeNumbers(t *testing.T) {
	huge := sizeOf(ones(1 << 26))
	callAll(t, []api.Int{{Size: api.Nat{7}}, {Minus: true, Size: api.Nat{7}}, {Size: huge}, {Minus: true, Size: huge}})
}

func callAll(t *testing.T, list []api.Int) {
	t.Helper()
	for _, a := range list {
		whole.Check(a)
		whole.Sign(a)
		whole.Text(a)
		if n, e := whole.Small(a); e != api.OK && n != 0 {
			t.Errorf("Small: error %d and %d", e, n)
		}
		for _, b := range list {
			whole.Same(a, b)
			for name, call := range calls() {
				got, e := call(a, b)
				for _, x := range got {
					if e != api.OK && (x.Minus || len(x.Size) != 0) {
						t.Errorf("%s: error %d and a number of %d digits", name, e, len(x.Size))
					}
				}
			}
		}
	}
}
