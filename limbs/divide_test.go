package limbs_test

import (
	"fmt"
	"math/big"
	"testing"

	"girdle/api"
	"girdle/limbs"
)

// divides: does Div answer as the library does?
func divides(t *testing.T, a, b api.Nat) {
	t.Helper()
	what := fmt.Sprint(a, " by ", b)
	often, rest, e := limbs.Div(a, b)
	if len(b) == 0 {
		refuse(t, what+": how often", often, e, api.ErrZero)
		refuse(t, what+": what is left", rest, e, api.ErrZero)
		return
	}
	wantOften, wantRest := new(big.Int).QuoRem(toBig(a), toBig(b), new(big.Int))
	expect(t, what+": how often", often, e, wantOften)
	expect(t, what+": what is left", rest, e, wantRest)
}

func TestDivExample(t *testing.T) {
	often, rest, e := limbs.Div(power(64), api.Nat{7})
	expect(t, "2^64 by 7", often, e, big.NewInt(2635249153387078802))
	expect(t, "what 2^64 by 7 leaves", rest, e, big.NewInt(2))
}

func TestDiv(t *testing.T) {
	for _, x := range pairs(40, 4000) {
		divides(t, x[0], x[1])
	}
}

// Where the first digits tell one too many, or the base and one, and what is taken out must be put back.
func TestDivGuessedWrong(t *testing.T) {
	for _, x := range [][2]string{
		{"800000000000000000000003", "200000000000000000000001"},
		{"00007fff000080000000000000000000", "000080000000000000000001"},
		{"00008000000000000000fffe00000000", "00008000000000000000ffff"},
		{"80000000fffffffe00000000", "800000000000ffff"},
		{"7fffffff800000000000000000000000", "800000000000000000000001"},
		{"8000000000000000fffffffe00000000", "8000000000000000ffffffff"},
		{"80000000000000000000000000000000", "80000000ffffffff"},
		{"ffffffff00000000fffffffeffffffff", "ffffffffffffffff"},
		{"fffffffffffffffffffffffe00000000", "ffffffffffffffffffffffff"},
	} {
		divides(t, hex(t, x[0]), hex(t, x[1]))
	}
}

func TestDivAroundMultiples(t *testing.T) {
	d := dice(2463534242)
	for range 1000 {
		b := d.nat(1 + d.next(12))
		whole := new(big.Int).Mul(toBig(b), toBig(d.nat(1+d.next(12))))
		divides(t, fromBig(new(big.Int).Sub(whole, big.NewInt(1))), b)
		divides(t, fromBig(whole), b)
		divides(t, fromBig(new(big.Int).Add(whole, big.NewInt(1))), b)
	}
}

func TestDivAtTheBound(t *testing.T) {
	d := dice(521288629)
	most := ones(maxBits)
	for _, b := range []api.Nat{
		{1}, {2}, {7}, {1<<32 - 1}, {0, 1}, {1, 1}, ones(64), power(maxBits / 2), ones(maxBits / 2),
		power(maxBits - 1), ones(maxBits - 1), most, d.nat(100), d.nat(256), d.nat(511), d.nat(512),
	} {
		divides(t, most, b)
		divides(t, b, most)
		divides(t, power(maxBits-1), b)
		divides(t, d.nat(limbs.MaxLimbs), b)
	}
}

func TestDivByNothing(t *testing.T) {
	for _, a := range []api.Nat{nil, {1}, ones(maxBits), ones(maxBits + 1), {1, 0}} {
		for _, b := range []api.Nat{nil, {}} {
			often, rest, e := limbs.Div(a, b)
			refuse(t, "how often nothing goes", often, e, api.ErrZero)
			refuse(t, "what nothing leaves", rest, e, api.ErrZero)
		}
	}
}
