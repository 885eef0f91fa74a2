package series

import (
	"cmp"
	"math/bits"

	"girdle/api"
)

// digitBits is how many bits a digit has.
const digitBits = 32

// lowestLevel is an exponent of a power of 2 that no ratio times another one is below,
// but 0.
const lowestLevel = -1 << 15

// level gives the exponent of the least power of 2, from the lowest one on, that
// the norm of a table, times a time, isn't above. Layer 4 has no room for some of
// these norms, but how often they have to be halved must be told of all.
func level(a [][]api.Rat, t api.Rat) int {
	exp := lowestLevel
	for _, row := range a {
		above, below := total(row, t)
		if size(above) > 0 {
			exp = max(exp, levelOf(above, below))
		}
	}
	return exp
}

// levelOf gives that of what stands above, not 0, and below.
func levelOf(above, below []uint32) int {
	exp := size(above) - size(below)
	if compare(shifted(above, max(-exp, 0)), shifted(below, max(exp, 0))) > 0 {
		exp++
	}
	return exp
}

// total gives the sizes of a row's ratios together, times a time: what stands above
// and below.
func total(row []api.Rat, t api.Rat) (above, below []uint32) {
	below = []uint32{1}
	for _, x := range row {
		if len(x.Num.Size) > 0 {
			above = together(product(above, x.Den), product(x.Num.Size, below))
			below = product(below, x.Den)
		}
	}
	return product(above, t.Num.Size), product(below, t.Den)
}

// product gives the digits of two numbers times each other, the lowest first, as
// layer 1's, but however many there are, and perhaps with noughts at the end.
func product(a, b []uint32) []uint32 {
	all := make([]uint32, len(a)+len(b))
	for i, x := range a {
		if x == 0 {
			continue
		}
		var carry uint64
		for j, y := range b {
			carry += uint64(x)*uint64(y) + uint64(all[i+j])
			all[i+j] = uint32(carry)
			carry >>= digitBits
		}
		all[i+len(b)] = uint32(carry)
	}
	return all
}

// together gives the digits of two numbers together.
func together(a, b []uint32) []uint32 {
	all := make([]uint32, max(len(a), len(b))+1)
	var carry uint32
	for i := range all {
		all[i], carry = bits.Add32(digit(a, i), digit(b, i), carry)
	}
	return all
}

// shifted gives the digits of a number times 2 to the power of n.
func shifted(a []uint32, n int) []uint32 {
	by := make([]uint32, n/digitBits+1)
	by[n/digitBits] = 1 << (n % digitBits)
	return product(by, a)
}

// compare tells whether a number is less, the same, more: -1, 0 or 1.
func compare(a, b []uint32) int {
	for i := max(len(a), len(b)) - 1; i >= 0; i-- {
		if x, y := digit(a, i), digit(b, i); x != y {
			return cmp.Compare(x, y)
		}
	}
	return 0
}

// size tells how many bits a number has, without noughts ahead.
func size(a []uint32) int {
	for i := len(a) - 1; i >= 0; i-- {
		if a[i] != 0 {
			return i*digitBits + bits.Len32(a[i])
		}
	}
	return 0
}

// digit gives the digit at a place; there are noughts beyond the last one.
func digit(a []uint32, at int) uint32 {
	if at < len(a) {
		return a[at]
	}
	return 0
}
