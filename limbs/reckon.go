package limbs

import (
	"math/bits"

	"girdle/api"
)

// maxBits is how many bits a number has at most.
const maxBits = MaxLimbs * limbBits

// Add: both together; ErrLimbs: that has too many digits.
func Add(a, b api.Nat) (api.Nat, api.Errno) {
	a, b = trim(a), trim(b)
	if len(a) < len(b) {
		a, b = b, a
	}
	sum := make(api.Nat, len(a)+1)
	var carry uint32
	for i, d := range a {
		sum[i], carry = bits.Add32(d, digit(b, i), carry)
	}
	sum[len(a)] = carry
	return fit(sum)
}

// Sub: the first one less the second one; ErrLess: that is greater.
func Sub(a, b api.Nat) (api.Nat, api.Errno) {
	if Compare(a, b) < 0 {
		return nil, api.ErrLess
	}
	a, b = trim(a), trim(b)
	rest := make(api.Nat, len(a))
	var borrow uint32
	for i, d := range a {
		rest[i], borrow = bits.Sub32(d, digit(b, i), borrow)
	}
	return fit(rest)
}

// Mul: one times the other; ErrLimbs: that has too many digits.
func Mul(a, b api.Nat) (api.Nat, api.Errno) {
	a, b = trim(a), trim(b)
	if len(a) == 0 || len(b) == 0 {
		return nil, api.OK
	}
	// A product has as many digits as both together, or one less: what is
	// beyond that bound for sure isn't worked out, however long it would take.
	if len(a)+len(b)-1 > MaxLimbs {
		return nil, api.ErrLimbs
	}
	product := make(api.Nat, len(a)+len(b))
	for i, d := range a {
		product[i+len(b)] = addTimes(product[i:i+len(b)], b, d)
	}
	return fit(product)
}

// Left: times 2 to the power of n; ErrRange: n is below 0; ErrLimbs: that has
// too many digits.
func Left(a api.Nat, n int) (api.Nat, api.Errno) {
	if n < 0 {
		return nil, api.ErrRange
	}
	size := Bits(a)
	if size == 0 {
		return nil, api.OK
	}
	if n > maxBits-size {
		return nil, api.ErrLimbs
	}
	return fit(shifted(trim(a), n))
}

// Right: divided by 2 to the power of n, rounded down; ErrRange: n is below 0.
func Right(a api.Nat, n int) (api.Nat, api.Errno) {
	if n < 0 {
		return nil, api.ErrRange
	}
	a = trim(a)
	skip, by := n/limbBits, n%limbBits
	if skip >= len(a) {
		return nil, api.OK
	}
	rest := make(api.Nat, len(a)-skip)
	for i := range rest {
		pair := uint64(digit(a, i+skip+1))<<limbBits | uint64(a[i+skip])
		rest[i] = uint32(pair >> by)
	}
	return fit(rest)
}

// fit gives an answer of new digits; ErrLimbs: they are too many.
func fit(a api.Nat) (api.Nat, api.Errno) {
	a = trim(a)
	if len(a) > MaxLimbs {
		return nil, api.ErrLimbs
	}
	return a, api.OK
}

// shifted gives new digits of a times 2 to the power of n: one digit more than
// a has, and those that n puts below, noughts at the end among them.
func shifted(a api.Nat, n int) api.Nat {
	skip, by := n/limbBits, n%limbBits
	all := make(api.Nat, len(a)+skip+1)
	for i, d := range a {
		pair := uint64(d) << by
		all[i+skip] |= uint32(pair)
		all[i+skip+1] = uint32(pair >> limbBits)
	}
	return all
}

// addTimes adds b times d to the sum, of as many digits, and gives the carry.
func addTimes(sum, b api.Nat, d uint32) uint32 {
	var carry uint64
	for i, x := range b {
		carry += uint64(x)*uint64(d) + uint64(sum[i])
		sum[i] = uint32(carry)
		carry >>= limbBits
	}
	return uint32(carry)
}
