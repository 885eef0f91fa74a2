package limbs_test

import (
	"fmt"
	"math"
	"math/big"
	"testing"

	"girdle/api"
	"girdle/limbs"
)

// pairs: numbers to be put together, edges with edges, and others of all lengths up to a bound.
func pairs(most, often int) [][2]api.Nat {
	var list [][2]api.Nat
	for _, a := range edges() {
		for _, b := range edges() {
			list = append(list, [2]api.Nat{a, b})
		}
	}
	d := dice(88172645463325252)
	for range often {
		list = append(list, [2]api.Nat{d.nat(d.next(most + 1)), d.nat(d.next(most + 1))})
	}
	return list
}

func TestAdd(t *testing.T) {
	for _, x := range pairs(40, 2000) {
		a, b := x[0], x[1]
		got, e := limbs.Add(a, b)
		expect(t, fmt.Sprint(a, " + ", b), got, e, new(big.Int).Add(toBig(a), toBig(b)))
	}
}

func TestAddAtTheBound(t *testing.T) {
	most, one := ones(maxBits), api.Nat{1}
	got, e := limbs.Add(most, nil)
	expect(t, "the greatest and 0", got, e, toBig(most))
	got, e = limbs.Add(one, fromBig(new(big.Int).Sub(toBig(most), big.NewInt(1))))
	expect(t, "1 and the greatest but one", got, e, toBig(most))
	got, e = limbs.Add(most, one)
	refuse(t, "the greatest and 1", got, e, api.ErrLimbs)
	got, e = limbs.Add(one, most)
	refuse(t, "1 and the greatest", got, e, api.ErrLimbs)
	got, e = limbs.Add(most, most)
	refuse(t, "the greatest twice", got, e, api.ErrLimbs)
	got, e = limbs.Add(power(maxBits-1), power(maxBits-1))
	refuse(t, "the greatest power twice", got, e, api.ErrLimbs)
}

func TestSub(t *testing.T) {
	for _, x := range pairs(40, 2000) {
		a, b := x[0], x[1]
		got, e := limbs.Sub(a, b)
		what := fmt.Sprint(a, " - ", b)
		if toBig(a).Cmp(toBig(b)) < 0 {
			refuse(t, what, got, e, api.ErrLess)
		} else {
			expect(t, what, got, e, new(big.Int).Sub(toBig(a), toBig(b)))
		}
	}
}

func TestSubAtTheBound(t *testing.T) {
	most := ones(maxBits)
	got, e := limbs.Sub(most, most)
	expect(t, "the greatest less itself", got, e, new(big.Int))
	got, e = limbs.Sub(most, nil)
	expect(t, "the greatest less 0", got, e, toBig(most))
	got, e = limbs.Sub(power(maxBits-1), api.Nat{1})
	expect(t, "a borrow all through", got, e, toBig(ones(maxBits-1)))
	got, e = limbs.Sub(ones(maxBits-1), most)
	refuse(t, "less by its last bit", got, e, api.ErrLess)
	got, e = limbs.Sub(nil, api.Nat{1})
	refuse(t, "0 less 1", got, e, api.ErrLess)
}

func TestMul(t *testing.T) {
	for _, x := range pairs(40, 2000) {
		a, b := x[0], x[1]
		got, e := limbs.Mul(a, b)
		expect(t, fmt.Sprint(a, " * ", b), got, e, new(big.Int).Mul(toBig(a), toBig(b)))
	}
}

func TestMulAtTheBound(t *testing.T) {
	half := maxBits / 2
	for _, x := range []struct {
		name string
		a, b api.Nat
		ok   bool
	}{
		{"halves", ones(half), ones(half), true},
		{"257 digits and 256, just so", power(half), power(half - 32), true},
		{"the same, to the last bit", power(half), ones(half - 32), true},
		{"257 digits and 256, just too many", power(half), power(half), false},
		{"257 digits and 256, and a carry", ones(half + 1), ones(half), false},
		{"257 digits and 257", power(half), power(half + 31), false},
		{"the greatest and 1", ones(maxBits), api.Nat{1}, true},
		{"the greatest and 0", ones(maxBits), nil, true},
		{"the greatest and 2", ones(maxBits), api.Nat{2}, false},
		{"the greatest power but one and 2", power(maxBits - 2), api.Nat{2}, true},
		{"the greatest twice", ones(maxBits), ones(maxBits), false},
	} {
		for range 2 {
			got, e := limbs.Mul(x.a, x.b)
			if x.ok {
				expect(t, x.name, got, e, new(big.Int).Mul(toBig(x.a), toBig(x.b)))
			} else {
				refuse(t, x.name, got, e, api.ErrLimbs)
			}
			x.a, x.b = x.b, x.a
		}
	}
}

func TestShifts(t *testing.T) {
	for _, a := range edges() {
		for n := range 200 {
			got, e := limbs.Left(a, n)
			expect(t, fmt.Sprint(a, " left by ", n), got, e, new(big.Int).Lsh(toBig(a), uint(n)))
			got, e = limbs.Right(a, n)
			expect(t, fmt.Sprint(a, " right by ", n), got, e, new(big.Int).Rsh(toBig(a), uint(n)))
		}
	}
}

func TestShiftsOfMany(t *testing.T) {
	d := dice(362436069)
	for range 1000 {
		a, n := d.nat(d.next(100)), d.next(3000)
		got, e := limbs.Left(a, n)
		expect(t, fmt.Sprint(a, " left by ", n), got, e, new(big.Int).Lsh(toBig(a), uint(n)))
		got, e = limbs.Right(a, n)
		expect(t, fmt.Sprint(a, " right by ", n), got, e, new(big.Int).Rsh(toBig(a), uint(n)))
	}
}

func TestLeftAtTheBound(t *testing.T) {
	for _, size := range []int{1, 31, 32, 33, 64, 1000, maxBits - 1, maxBits} {
		for _, a := range []api.Nat{power(size - 1), ones(size)} {
			got, e := limbs.Left(a, maxBits-size)
			expect(t, fmt.Sprint(size, " bits to the end"), got, e, new(big.Int).Lsh(toBig(a), uint(maxBits-size)))
			got, e = limbs.Left(a, maxBits-size+1)
			refuse(t, fmt.Sprint(size, " bits beyond the end"), got, e, api.ErrLimbs)
		}
	}
}

func TestShiftsByGreatNumbers(t *testing.T) {
	for _, n := range []int{maxBits, maxBits + 1, 1 << 31, 1 << 40, math.MaxInt - 31, math.MaxInt} {
		for _, a := range []api.Nat{{1}, {0, 1 << 31}, ones(maxBits)} {
			got, e := limbs.Left(a, n)
			refuse(t, fmt.Sprint("Left by ", n), got, e, api.ErrLimbs)
			got, e = limbs.Right(a, n)
			expect(t, fmt.Sprint("Right by ", n), got, e, new(big.Int))
		}
		got, e := limbs.Left(nil, n)
		expect(t, fmt.Sprint("0 left by ", n), got, e, new(big.Int))
		got, e = limbs.Right(nil, n)
		expect(t, fmt.Sprint("0 right by ", n), got, e, new(big.Int))
	}
}

func TestShiftsBelowNothing(t *testing.T) {
	for _, n := range []int{-1, -32, -maxBits, math.MinInt} {
		for _, a := range []api.Nat{nil, {1}, ones(maxBits), ones(maxBits + 1), {1, 0}} {
			got, e := limbs.Left(a, n)
			refuse(t, fmt.Sprint("Left by ", n), got, e, api.ErrRange)
			got, e = limbs.Right(a, n)
			refuse(t, fmt.Sprint("Right by ", n), got, e, api.ErrRange)
		}
	}
}
