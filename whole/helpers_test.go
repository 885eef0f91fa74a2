package whole_test

import (
	"encoding/binary"
	"math/big"
	"slices"
	"testing"

	"girdle/api"
	"girdle/limbs"
)

// maxBits is how many bits a number's size has at most.
const maxBits = limbs.MaxLimbs * 32

// toBig: a number as one of the library's.
func toBig(a api.Int) *big.Int {
	var bytes []byte
	for i := len(a.Size) - 1; i >= 0; i-- {
		bytes = binary.BigEndian.AppendUint32(bytes, a.Size[i])
	}
	n := new(big.Int).SetBytes(bytes)
	if a.Minus {
		n.Neg(n)
	}
	return n
}

// sizeOf: the digits of one of the library's.
func sizeOf(n *big.Int) api.Nat {
	a := make(api.Nat, (n.BitLen()+31)/32)
	bytes := n.FillBytes(make([]byte, 4*len(a)))
	for i := range a {
		a[len(a)-1-i] = binary.BigEndian.Uint32(bytes[4*i:])
	}
	return a
}

// fromBig: one of the library's as a number.
func fromBig(n *big.Int) api.Int {
	return api.Int{Minus: n.Sign() < 0, Size: sizeOf(n)}
}

// small: a small one of the library's.
func small(n int64) *big.Int { return big.NewInt(n) }

// power: 2 to the power of n.
func power(n int) *big.Int { return new(big.Int).Lsh(small(1), uint(n)) }

// ones: the greatest number of so many bits.
func ones(n int) *big.Int { return plus(power(n), small(-1)) }

func plus(a, b *big.Int) *big.Int { return new(big.Int).Add(a, b) }

func less(a, b *big.Int) *big.Int { return new(big.Int).Sub(a, b) }

func times(a, b *big.Int) *big.Int { return new(big.Int).Mul(a, b) }

func minus(a *big.Int) *big.Int { return new(big.Int).Neg(a) }

// sameInt: are both told the same way?
func sameInt(a, b api.Int) bool {
	return a.Minus == b.Minus && slices.Equal(a.Size, b.Size)
}

// expect: is the answer the number that is asked, told as it must be, beside no
// error; or, where there is no room for it, ErrLimbs alone?
func expect(t *testing.T, what string, got api.Int, e api.Errno, want *big.Int) {
	t.Helper()
	switch {
	case want.BitLen() > maxBits:
		refuse(t, what, got, e, api.ErrLimbs)
	case e != api.OK:
		t.Errorf("%s: error %d", what, e)
	case !sameInt(got, fromBig(want)):
		t.Errorf("%s: %v, not %v", what, got, fromBig(want))
	}
}

// refuse: is the answer that error, and 0 beside it?
func refuse(t *testing.T, what string, got api.Int, e, want api.Errno) {
	t.Helper()
	if e != want || got.Minus || len(got.Size) != 0 {
		t.Errorf("%s: error %d and %v, not error %d and 0", what, e, got, want)
	}
}

// dice gives numbers that look thrown, the same ones at each run.
type dice uint64

// next: a number below n.
func (d *dice) next(n int) int {
	*d ^= *d << 13
	*d ^= *d >> 7
	*d ^= *d << 17
	return int(uint64(*d) >> 1 % uint64(n))
}

// big: a number, below 0 as often as above, of no more than so many bits.
func (d *dice) big(bits int) *big.Int {
	n := new(big.Int)
	for range bits {
		n.Lsh(n, 1)
		n.Or(n, small(int64(d.next(2))))
	}
	if d.next(2) == 0 {
		n.Neg(n)
	}
	return n
}

// edges: numbers at which something may end, both ways.
func edges() []*big.Int {
	list := []*big.Int{small(0)}
	for _, n := range []*big.Int{
		small(1), small(2), small(3), small(7), small(8), ones(31), power(31), ones(32), power(32), plus(power(32), small(1)),
		ones(63), power(63), plus(power(63), small(1)), ones(64), power(64), power(65), ones(96), power(96),
		times(power(40), small(5)), plus(power(100), power(33)),
	} {
		list = append(list, n, minus(n))
	}
	return list
}

// numbers: the edges, and some that look thrown.
func numbers() []*big.Int {
	d := dice(20261119)
	list := edges()
	for range 40 {
		list = append(list, d.big(1+d.next(300)))
	}
	return list
}

// bounds: numbers at the bound of what a size may be.
func bounds() []*big.Int {
	var list []*big.Int
	for _, n := range []*big.Int{ones(maxBits), power(maxBits - 1), power(maxBits / 2), ones(maxBits / 2), ones(maxBits - 32)} {
		list = append(list, n, minus(n))
	}
	return append(list, small(0), small(1), small(-1), small(2), small(-2))
}
