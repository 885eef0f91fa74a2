// Package limbs reckons with numbers from 0 on, of any size up to a bound.
package limbs

import (
	"cmp"
	"iter"
	"math/bits"

	"girdle/api"
)

// MaxLimbs is how many digits to the base 2^32 a number has at most.
const MaxLimbs = 512

// limbBits is how many bits a digit has.
const limbBits = 32

// Check: may a number be? ErrLimbs: it has too many digits; ErrForm: its last one is 0.
func Check(a api.Nat) api.Errno {
	switch {
	case len(a) > MaxLimbs:
		return api.ErrLimbs
	case len(a) > 0 && a[len(a)-1] == 0:
		return api.ErrForm
	}
	return api.OK
}

// Of: a small number.
func Of(n uint64) api.Nat {
	return trim(api.Nat{uint32(n), uint32(n >> limbBits)})
}

// Small: the number as one of 64 bits; ErrLimbs: it is greater.
func Small(a api.Nat) (uint64, api.Errno) {
	if Bits(a) > 64 {
		return 0, api.ErrLimbs
	}
	var n uint64
	for _, d := range down(a) {
		n = n<<limbBits | uint64(d)
	}
	return n, api.OK
}

// Compare: -1, 0 or 1: whether the first one is less, the same, more.
func Compare(a, b api.Nat) int {
	a, b = trim(a), trim(b)
	if len(a) != len(b) {
		return cmp.Compare(len(a), len(b))
	}
	for i, d := range down(a) {
		if d != b[i] {
			return cmp.Compare(d, b[i])
		}
	}
	return 0
}

// Bits: how many bits a number has, without noughts ahead.
func Bits(a api.Nat) int {
	for i, d := range down(a) {
		if d != 0 {
			return i*limbBits + bits.Len32(d)
		}
	}
	return 0
}

// Tail: how many noughts stand at the end of its bits; 0 of 0.
func Tail(a api.Nat) int {
	for i, d := range a {
		if d != 0 {
			return i*limbBits + bits.TrailingZeros32(d)
		}
	}
	return 0
}

// down goes through digits from the last to the first, each with its place.
func down(a api.Nat) iter.Seq2[int, uint32] {
	return func(yield func(int, uint32) bool) {
		for i := len(a) - 1; i >= 0; i-- {
			if !yield(i, a[i]) {
				return
			}
		}
	}
}

// trim gives the digits without the noughts at the end. It leaves no spare
// room, so that who appends to an answer never writes into what lies behind.
func trim(a api.Nat) api.Nat {
	for i, d := range down(a) {
		if d != 0 {
			return a[: i+1 : i+1]
		}
	}
	return nil
}

// digit gives the digit at a place; there are noughts beyond the last one.
func digit(a api.Nat, at int) uint32 {
	if at < len(a) {
		return a[at]
	}
	return 0
}
