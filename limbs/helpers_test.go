package limbs_test

import (
	"encoding/binary"
	"math/big"
	"slices"
	"testing"

	"girdle/api"
	"girdle/limbs"
)

// maxBits is how many bits a number has at most.
const maxBits = limbs.MaxLimbs * 32

// toBig: a number as one of the library's.
func toBig(a api.Nat) *big.Int {
	var bytes []byte
	for i := len(a) - 1; i >= 0; i-- {
		bytes = binary.BigEndian.AppendUint32(bytes, a[i])
	}
	return new(big.Int).SetBytes(bytes)
}

// fromBig: one of the library's as a number.
func fromBig(n *big.Int) api.Nat {
	a := make(api.Nat, (n.BitLen()+31)/32)
	bytes := n.FillBytes(make([]byte, 4*len(a)))
	for i := range a {
		a[len(a)-1-i] = binary.BigEndian.Uint32(bytes[4*i:])
	}
	return a
}

// hex: the number of a text of hexadecimal digits.
func hex(t *testing.T, s string) api.Nat {
	t.Helper()
	n, ok := new(big.Int).SetString(s, 16)
	if !ok {
		t.Fatalf("no hexadecimal digits: %s", s)
	}
	return fromBig(n)
}

// power: 2 to the power of n.
func power(n int) api.Nat {
	return fromBig(new(big.Int).Lsh(big.NewInt(1), uint(n)))
}

// ones: the greatest number of so many bits.
func ones(n int) api.Nat {
	return fromBig(new(big.Int).Sub(new(big.Int).Lsh(big.NewInt(1), uint(n)), big.NewInt(1)))
}

// expect: is the answer the number that is asked, told as it must be, beside no error?
func expect(t *testing.T, what string, got api.Nat, e api.Errno, want *big.Int) {
	t.Helper()
	if e != api.OK {
		t.Errorf("%s: error %d", what, e)
		return
	}
	if !slices.Equal(got, fromBig(want)) {
		t.Errorf("%s: %v, not %v", what, got, fromBig(want))
	}
}

// refuse: is the answer that error, and none beside it?
func refuse(t *testing.T, what string, got api.Nat, e, want api.Errno) {
	t.Helper()
	if e != want || len(got) != 0 {
		t.Errorf("%s: error %d and %d digits, not error %d and none", what, e, len(got), want)
	}
}

// dice gives numbers that look thrown, the same ones at each run.
type dice uint64

// next: a number below n.
func (d *dice) next(n int) int {
	*d ^= *d << 13
	*d ^= *d >> 7
	*d ^= *d << 17
	return int(uint64(*d) >> 1 % uint64(n))
}

// nat: a number of so many digits; many of these are at an end of what a digit may be.
func (d *dice) nat(size int) api.Nat {
	a := make(api.Nat, size)
	for i := range a {
		switch d.next(6) {
		case 0:
			a[i] = 0
		case 1:
			a[i] = 1<<32 - 1
		case 2:
			a[i] = 1 << 31
		case 3:
			a[i] = uint32(d.next(3))
		default:
			a[i] = uint32(d.next(1 << 32))
		}
	}
	if size > 0 && a[size-1] == 0 {
		a[size-1] = uint32(1 + d.next(1<<32-1))
	}
	return a
}

// edges: numbers at which something may end.
func edges() []api.Nat {
	return []api.Nat{
		nil, {1}, {2}, {3}, {1<<31 - 1}, {1 << 31}, {1<<32 - 1},
		{0, 1}, {1, 1}, {1<<32 - 1, 1<<32 - 1}, {0, 1 << 31}, {0, 0, 1}, ones(96), power(96),
		{1<<32 - 1, 0, 1<<32 - 1}, {0, 1<<32 - 1, 0, 1 << 31}, ones(128), power(127),
	}
}
