package dyad_test

import (
	"fmt"
	"math/big"
	"testing"

	"girdle/api"
	"girdle/dyad"
)

// joins: Add and Sub, and what they do with whole numbers.
func joins() map[string]struct {
	call func(a, b api.Dyad) (api.Dyad, api.Errno)
	with func(z, x, y *big.Int) *big.Int
} {
	return map[string]struct {
		call func(a, b api.Dyad) (api.Dyad, api.Errno)
		with func(z, x, y *big.Int) *big.Int
	}{
		"Add": {dyad.Add, (*big.Int).Add},
		"Sub": {dyad.Sub, (*big.Int).Sub},
	}
}

// joining: do Add and Sub answer as the library does, and refuse what has no room
// at the lesser power of 2?
func joining(t *testing.T, x, y number) {
	t.Helper()
	exp := min(x.exp, y.exp)
	left, right := at(x.man, x.exp-exp), at(y.man, y.exp-exp)
	for name, join := range joins() {
		what := fmt.Sprint(name, " of ", x, " and ", y)
		got, e := join.call(x.dyad(), y.dyad())
		both := join.with(new(big.Int), left, right)
		if max(left.BitLen(), right.BitLen(), both.BitLen()) > maxBits {
			refuse(t, what, got, e, api.ErrLimbs)
			continue
		}
		expect(t, what, got, e, lowest(both, exp))
	}
}

func TestAddAndSub(t *testing.T) {
	for _, x := range numbers() {
		for _, y := range numbers() {
			joining(t, x, y)
		}
	}
}

func TestAddAndSubAtTheBounds(t *testing.T) {
	for _, x := range bounds() {
		for _, y := range bounds() {
			joining(t, x, y)
		}
	}
}

// What is the last that has room, and the first that hasn't.
func TestRoomOfAdd(t *testing.T) {
	for _, x := range []struct {
		what string
		a, b number
		want api.Errno
	}{
		{"1 and a number of MaxLimbs digits", of(1, 0), of(1, maxBits-1), api.OK},
		{"1 and one of a digit more", of(1, 0), of(1, maxBits), api.ErrLimbs},
		{"the same far from 0", of(1, -40000), of(1, maxBits-40001), api.OK},
		{"the same far from 0, a digit more", of(1, -40000), of(1, maxBits-40000), api.ErrLimbs},
		{"two that come to a digit more", lowest(ones(maxBits), 0), of(1, 0), api.ErrLimbs},
		{"two that come to one less", lowest(ones(maxBits), 0), of(-1, 0), api.OK},
		{"0 and what has room as a whole number", of(0, 0), of(1, maxBits-1), api.OK},
		{"0 and what hasn't: the lesser power is that of 0", of(0, 0), of(1, maxBits), api.ErrLimbs},
		{"0 and the least", of(0, 0), of(1, -dyad.MaxExp), api.OK},
		{"twice the greatest power", of(1, dyad.MaxExp), of(1, dyad.MaxExp), api.ErrRange},
		{"twice one that is less", of(1, dyad.MaxExp-1), of(1, dyad.MaxExp-1), api.OK},
		{"the greatest power less itself", of(1, dyad.MaxExp), of(-1, dyad.MaxExp), api.OK},
		{"no room, though it would be beyond too", lowest(ones(maxBits), dyad.MaxExp), of(1, dyad.MaxExp), api.ErrLimbs},
	} {
		for _, sign := range []string{"", ", the other way round"} {
			got, e := dyad.Add(x.a.dyad(), x.b.dyad())
			if e != x.want {
				t.Errorf("%s%s: error %d, not %d", x.what, sign, e, x.want)
			}
			if e != api.OK {
				refuse(t, x.what+sign, got, e, x.want)
			}
			x.a, x.b = x.b.minus(), x.a.minus()
		}
	}
}

// Nothing is told as 0, with no exponent.
func TestNothingLeft(t *testing.T) {
	for _, n := range append(numbers(), bounds()...) {
		got, e := dyad.Sub(n.dyad(), n.dyad())
		expect(t, n.String()+" less itself", got, e, of(0, 0))
	}
}

func TestMul(t *testing.T) {
	for _, list := range [][]number{numbers(), bounds()} {
		for _, x := range list {
			for _, y := range list {
				got, e := dyad.Mul(x.dyad(), y.dyad())
				want := number{new(big.Int).Mul(x.man, y.man), x.exp + y.exp}
				if want.man.Sign() == 0 {
					want.exp = 0
				}
				expect(t, fmt.Sprint(x, " times ", y), got, e, want)
			}
		}
	}
}

func TestRoomOfMul(t *testing.T) {
	half := lowest(ones(maxBits/2), 0)
	for _, x := range []struct {
		what string
		a, b number
		want api.Errno
	}{
		{"half the digits times as many", half, half, api.OK},
		{"one bit more", half, lowest(ones(maxBits/2+1), 0), api.ErrLimbs},
		{"powers up to the greatest", of(1, dyad.MaxExp-7), of(1, 7), api.OK},
		{"powers beyond", of(1, dyad.MaxExp-7), of(1, 8), api.ErrRange},
		{"powers down to the least", of(1, 7-dyad.MaxExp), of(1, -7), api.OK},
		{"powers below", of(1, 7-dyad.MaxExp), of(1, -8), api.ErrRange},
		{"the greatest times the least", of(1, dyad.MaxExp), of(1, -dyad.MaxExp), api.OK},
		{"no room, and beyond: what is named first", lowest(ones(maxBits), dyad.MaxExp), lowest(ones(maxBits), dyad.MaxExp), api.ErrLimbs},
		{"0 times the greatest", of(0, 0), of(1, dyad.MaxExp), api.OK},
	} {
		for range 2 {
			got, e := dyad.Mul(x.a.dyad(), x.b.dyad())
			if e != x.want {
				t.Errorf("%s: error %d, not %d", x.what, e, x.want)
			}
			if e != api.OK {
				refuse(t, x.what, got, e, x.want)
			}
			x.a, x.b = x.b.minus(), x.a
		}
	}
}
