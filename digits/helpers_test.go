package digits_test

import (
	"encoding/binary"
	"math/big"
	"slices"
	"testing"

	"girdle/api"
	"girdle/limbs"
)

// maxBits is how many bits a number has at most.
const maxBits = limbs.MaxLimbs * 32

// toBig: a number as one of the library's.
func toBig(a api.Nat) *big.Int {
	var bytes []byte
	for i := len(a) - 1; i >= 0; i-- {
		bytes = binary.BigEndian.AppendUint32(bytes, a[i])
	}
	return new(big.Int).SetBytes(bytes)
}

// fromBig: one of the library's as a number.
func fromBig(n *big.Int) api.Nat {
	a := make(api.Nat, (n.BitLen()+31)/32)
	bytes := n.FillBytes(make([]byte, 4*len(a)))
	for i := range a {
		a[len(a)-1-i] = binary.BigEndian.Uint32(bytes[4*i:])
	}
	return a
}

// ten: 10 to the power of n.
func ten(n int) *big.Int {
	return new(big.Int).Exp(big.NewInt(10), big.NewInt(int64(n)), nil)
}

// less: a number less one.
func less(n *big.Int) *big.Int {
	return new(big.Int).Sub(n, big.NewInt(1))
}

// power: 2 to the power of n.
func power(n int) *big.Int {
	return new(big.Int).Lsh(big.NewInt(1), uint(n))
}

// expect: is the answer the number that is asked, told as it must be, beside no error?
func expect(t *testing.T, what string, got api.Nat, e api.Errno, want *big.Int) {
	t.Helper()
	if e != api.OK {
		t.Errorf("%s: error %d", what, e)
		return
	}
	if !slices.Equal(got, fromBig(want)) {
		t.Errorf("%s: %v, not %v", what, got, fromBig(want))
	}
}

// refuse: is the answer that error, and none beside it?
func refuse(t *testing.T, what string, got api.Nat, e, want api.Errno) {
	t.Helper()
	if e != want || len(got) != 0 {
		t.Errorf("%s: error %d and %d digits, not error %d and none", what, e, len(got), want)
	}
}

// dice gives numbers that look thrown, the same ones at each run.
type dice uint64

// next: a number below n.
func (d *dice) next(n int) int {
	*d ^= *d << 13
	*d ^= *d >> 7
	*d ^= *d << 17
	return int(uint64(*d) >> 1 % uint64(n))
}

// big: a number of no more than so many bits.
func (d *dice) big(bits int) *big.Int {
	n := new(big.Int)
	for range bits {
		n.Lsh(n, 1)
		n.Or(n, big.NewInt(int64(d.next(2))))
	}
	return n
}
