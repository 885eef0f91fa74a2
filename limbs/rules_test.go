package limbs_test

import (
	"fmt"
	"math"
	"slices"
	"testing"

	"girdle/api"
	"girdle/limbs"
)

// calls: all calls that answer numbers, by what they do with two.
func calls() map[string]func(a, b api.Nat) ([]api.Nat, api.Errno) {
	one := func(f func(a, b api.Nat) (api.Nat, api.Errno)) func(a, b api.Nat) ([]api.Nat, api.Errno) {
		return func(a, b api.Nat) ([]api.Nat, api.Errno) {
			got, e := f(a, b)
			return []api.Nat{got}, e
		}
	}
	shift := func(f func(a api.Nat, n int) (api.Nat, api.Errno), n int) func(a, b api.Nat) ([]api.Nat, api.Errno) {
		return one(func(a, _ api.Nat) (api.Nat, api.Errno) { return f(a, n) })
	}
	list := map[string]func(a, b api.Nat) ([]api.Nat, api.Errno){
		"Add": one(limbs.Add), "Sub": one(limbs.Sub), "Mul": one(limbs.Mul),
		"Div": func(a, b api.Nat) ([]api.Nat, api.Errno) {
			often, rest, e := limbs.Div(a, b)
			return []api.Nat{often, rest}, e
		},
	}
	for _, n := range []int{math.MinInt, -1, 0, 1, 31, 32, 33, 64, maxBits, math.MaxInt} {
		list[fmt.Sprint("Left by ", n)] = shift(limbs.Left, n)
		list[fmt.Sprint("Right by ", n)] = shift(limbs.Right, n)
	}
	return list
}

// roomy: a number with spare room behind it, all of it filled.
func roomy(a api.Nat) (api.Nat, []uint32) {
	all := append(slices.Clone(a), 77, 88, 99, 111)
	return all[:len(a)], all
}

// spoil: write over a number, and its spare room.
func spoil(a api.Nat) {
	for i := range a[:cap(a)] {
		a[:cap(a)][i] = 0xdead
	}
}

// copies: the same numbers in memory of their own.
func copies(list []api.Nat) []api.Nat {
	var own []api.Nat
	for _, a := range list {
		own = append(own, slices.Clone(a))
	}
	return own
}

func sameNats(a, b []api.Nat) bool {
	return slices.EqualFunc(a, b, func(x, y api.Nat) bool { return slices.Equal(x, y) })
}

func TestArgumentsStayAsTheyAre(t *testing.T) {
	for name, call := range calls() {
		for _, x := range pairs(6, 100) {
			a, allA := roomy(x[0])
			b, allB := roomy(x[1])
			wasA, wasB := slices.Clone(allA), slices.Clone(allB)
			first, e := call(a, b)
			if !slices.Equal(allA, wasA) || !slices.Equal(allB, wasB) {
				t.Fatalf("%s of %v and %v changed them", name, x[0], x[1])
			}
			second, again := call(a, b)
			if e != again || !sameNats(first, second) {
				t.Fatalf("%s of %v and %v: not twice the same", name, x[0], x[1])
			}
		}
	}
}

// What is answered shares no memory with what was handed in, nor with what else
// is answered: where one is written over, the others stay as they are. (A number
// that is answered as it was handed in might share it; here none does.)
func TestAnswersAreNewMemory(t *testing.T) {
	for name, call := range calls() {
		for _, x := range pairs(6, 100) {
			a, allA := roomy(x[0])
			b, allB := roomy(x[1])
			wasA, wasB := slices.Clone(allA), slices.Clone(allB)
			got, _ := call(a, b)
			want := copies(got)
			for i := range got {
				spoil(got[i])
				for k := range got {
					if k > i && !slices.Equal(got[k], want[k]) {
						t.Fatalf("%s of %v and %v: its answers share memory", name, x[0], x[1])
					}
				}
			}
			if !slices.Equal(allA, wasA) || !slices.Equal(allB, wasB) {
				t.Fatalf("%s of %v and %v: an answer shares memory with them", name, x[0], x[1])
			}
			if got, _ = call(a, b); !sameNats(got, want) {
				t.Fatalf("%s of %v and %v: an answer shares memory with a later one", name, x[0], x[1])
			}
			spoil(allA)
			spoil(allB)
			if !sameNats(got, want) {
				t.Fatalf("%s of %v and %v: they share memory with an answer", name, x[0], x[1])
			}
		}
	}
}

// Who appends to an answer gets memory of his own.
func TestAnswersHaveNoSpareRoom(t *testing.T) {
	for name, call := range calls() {
		for _, x := range pairs(6, 100) {
			got, _ := call(x[0], x[1])
			for _, a := range got {
				if cap(a) != len(a) {
					t.Fatalf("%s of %v and %v: %d digits in room for %d", name, x[0], x[1], len(a), cap(a))
				}
			}
		}
	}
}

func TestOfIsNewMemory(t *testing.T) {
	for _, n := range []uint64{0, 7, 1<<32 + 7} {
		spoil(limbs.Of(n))
		if got, e := limbs.Small(limbs.Of(n)); got != n || e != api.OK {
			t.Errorf("Of(%d) is %d", n, got)
		}
	}
}

// wrong: what is no number, short and long.
func wrong() []api.Nat {
	return []api.Nat{
		{}, {0}, {0, 0}, {1, 0}, {0, 1, 0}, {5, 0, 0, 0},
		make(api.Nat, limbs.MaxLimbs), make(api.Nat, limbs.MaxLimbs+1), append(ones(maxBits), 0),
		ones(maxBits + 1), power(maxBits), ones(2 * maxBits), make(api.Nat, 4*limbs.MaxLimbs),
	}
}

// All calls end at all arguments, and none panics; and an error stands alone.
func TestWrongNumbers(t *testing.T) {
	callAll(t, append(wrong(), nil, api.Nat{1}, api.Nat{7, 7}, ones(maxBits)))
}

// Nor does it take for ever: digit by digit these would be multiplied, or divided, for hours.
func TestHugeNumbers(t *testing.T) {
	callAll(t, []api.Nat{{7}, ones(1 << 27), power(1<<26 - 1)})
}

func callAll(t *testing.T, list []api.Nat) {
	t.Helper()
	for _, a := range list {
		limbs.Check(a)
		limbs.Bits(a)
		limbs.Tail(a)
		if n, e := limbs.Small(a); e != api.OK && n != 0 {
			t.Errorf("Small: error %d and %d", e, n)
		}
		for _, b := range list {
			limbs.Compare(a, b)
			for name, call := range calls() {
				got, e := call(a, b)
				for _, x := range got {
					if e != api.OK && len(x) != 0 {
						t.Errorf("%s: error %d and %d digits", name, e, len(x))
					}
				}
			}
		}
	}
}
