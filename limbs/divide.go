package limbs

import (
	"math/bits"
	"slices"

	"girdle/api"
)

// Div: how often b goes into a, rounded down, and what is left; ErrZero: b is 0.
func Div(a, b api.Nat) (api.Nat, api.Nat, api.Errno) {
	a, b = trim(a), trim(b)
	switch {
	case len(b) == 0:
		return nil, nil, api.ErrZero
	case len(a) > MaxLimbs: // no number: to divide it might take for ever
		return nil, nil, api.ErrLimbs
	case len(a) < len(b):
		return nil, trim(slices.Clone(a)), api.OK
	case len(b) == 1:
		often, rest := divideShort(a, b[0])
		return often, rest, api.OK
	}
	often, rest := divideLong(a, b)
	return often, rest, api.OK
}

// divideShort divides by one digit.
func divideShort(a api.Nat, b uint32) (api.Nat, api.Nat) {
	often := make(api.Nat, len(a))
	var rest uint32
	for i, d := range down(a) {
		often[i], rest = bits.Div32(rest, d, b)
	}
	return trim(often), Of(uint64(rest))
}

// divideLong divides by two digits or more, as one does by hand: digit by
// digit, from the last on, each guessed. Both are shifted ahead of that so that
// the last digit of b has its highest bit, for only then is no guess far off.
func divideLong(a, b api.Nat) (api.Nat, api.Nat) {
	by := bits.LeadingZeros32(b[len(b)-1])
	left, b := shifted(a, by), trim(shifted(b, by))
	often := make(api.Nat, len(a)-len(b)+1)
	for i := range down(often) {
		often[i] = takeOut(left[i:i+len(b)+1], b)
	}
	rest, _ := Right(left, by)
	return trim(often), rest
}

// takeOut takes b out of left as often as it goes into it, and tells how often.
// left has one digit more than b, and is less than b times the base.
func takeOut(left, b api.Nat) uint32 {
	often := guess(left, b)
	if subTimes(left, b, often) {
		often--
		left[len(b)] += addTimes(left[:len(b)], b, 1)
	}
	return often
}

// guess tells by the highest digits alone how often b goes into left: it is
// right, or one too many.
func guess(left, b api.Nat) uint32 {
	n := len(b)
	high, next := uint64(b[n-1]), uint64(b[n-2])
	top := uint64(left[n])<<limbBits | uint64(left[n-1])
	often := min(top/high, 1<<limbBits-1)
	rest := top - often*high
	for rest < 1<<limbBits && often*next > rest<<limbBits|uint64(left[n-2]) {
		often--
		rest += high
	}
	return uint32(often)
}

// subTimes takes b times often out of left, which has one digit more, and tells
// whether that was too much: left is then what it is short of, from the base to
// the power of its digits on down.
func subTimes(left, b api.Nat, often uint32) bool {
	var carry uint64
	for i, d := range b {
		carry += uint64(d) * uint64(often)
		low := uint32(carry)
		carry >>= limbBits
		if left[i] < low {
			carry++
		}
		left[i] -= low
	}
	short := uint64(left[len(b)]) < carry
	left[len(b)] -= uint32(carry)
	return short
}
