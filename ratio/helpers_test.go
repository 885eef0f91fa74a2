package ratio_test

import (
	"encoding/binary"
	"math/big"
	"slices"
	"testing"

	"girdle/api"
	"girdle/limbs"
	"girdle/ratio"
)

// maxBits is how many bits what stands above, or below, has at most.
const maxBits = limbs.MaxLimbs * 32

// sizeOf: the digits of one of the library's numbers.
func sizeOf(n *big.Int) api.Nat {
	a := make(api.Nat, (n.BitLen()+31)/32)
	bytes := n.FillBytes(make([]byte, 4*len(a)))
	for i := range a {
		a[len(a)-1-i] = binary.BigEndian.Uint32(bytes[4*i:])
	}
	return a
}

// intOf: one of the library's as a whole number.
func intOf(n *big.Int) api.Int {
	return api.Int{Minus: n.Sign() < 0, Size: sizeOf(n)}
}

// fromBig: one of the library's ratios, which are in lowest terms, as one of ours.
func fromBig(r *big.Rat) api.Rat {
	return api.Rat{Num: intOf(r.Num()), Den: sizeOf(r.Denom())}
}

// small: a small one of the library's.
func small(n int64) *big.Int { return big.NewInt(n) }

// power: 2 to the power of n.
func power(n int) *big.Int { return new(big.Int).Lsh(small(1), uint(n)) }

// ones: the greatest number of so many bits.
func ones(n int) *big.Int { return new(big.Int).Sub(power(n), small(1)) }

func times(a, b *big.Int) *big.Int { return new(big.Int).Mul(a, b) }

// frac: a ratio of two of the library's numbers.
func frac(num, den *big.Int) *big.Rat { return new(big.Rat).SetFrac(num, den) }

func sameInt(a, b api.Int) bool {
	return a.Minus == b.Minus && slices.Equal(a.Size, b.Size)
}

// sameRat: are both told the same way?
func sameRat(a, b api.Rat) bool {
	return sameInt(a.Num, b.Num) && slices.Equal(a.Den, b.Den)
}

// expect: is the answer the ratio that is asked, in lowest terms, beside no error?
func expect(t *testing.T, what string, got api.Rat, e api.Errno, want *big.Rat) {
	t.Helper()
	if e != api.OK {
		t.Errorf("%s: error %d", what, e)
		return
	}
	if !sameRat(got, fromBig(want)) {
		t.Errorf("%s: %v, not %v", what, got, fromBig(want))
	}
}

// refuse: is the answer that error, and 0 beside it?
func refuse(t *testing.T, what string, got api.Rat, e, want api.Errno) {
	t.Helper()
	if e != want || !sameRat(got, ratio.Zero()) {
		t.Errorf("%s: error %d and %v, not error %d and 0", what, e, got, want)
	}
}

// dice gives numbers that look thrown, the same ones at each run.
type dice uint64

// next: a number below n.
func (d *dice) next(n int) int {
	*d ^= *d << 13
	*d ^= *d >> 7
	*d ^= *d << 17
	return int(uint64(*d) >> 1 % uint64(n))
}

// big: a number, below 0 as often as above, of no more than so many bits.
func (d *dice) big(bits int) *big.Int {
	n := new(big.Int)
	for range bits {
		n.Lsh(n, 1)
		n.Or(n, small(int64(d.next(2))))
	}
	if d.next(2) == 0 {
		n.Neg(n)
	}
	return n
}

// rat: a ratio of numbers of no more than so many bits.
func (d *dice) rat(bits int) *big.Rat {
	den := d.big(bits)
	if den.Sign() == 0 {
		den = small(1)
	}
	return frac(d.big(bits), den)
}

// ratios: some at which something may end, and some that look thrown.
func ratios() []*big.Rat {
	var list []*big.Rat
	for _, x := range [][2]int64{
		{0, 1}, {1, 1}, {2, 1}, {7, 1}, {1, 2}, {1, 3}, {2, 3}, {3, 2}, {5, 4}, {7, 6}, {6, 7}, {1 << 40, 3}, {3, 1 << 40}, {10, 21}, {999, 1000},
	} {
		list = append(list, big.NewRat(x[0], x[1]), big.NewRat(-x[0], x[1]))
	}
	d := dice(424242)
	for range 30 {
		list = append(list, d.rat(1+d.next(10)), d.rat(1+d.next(200)))
	}
	return list
}
