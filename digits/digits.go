// Package digits writes numbers in decimal digits, reads them, and finds what divides two.
package digits

import (
	"slices"
	"strconv"
	"strings"

	"girdle/api"
	"girdle/limbs"
)

// MaxDigits is how many decimal digits a number's text has at most.
const MaxDigits = 4900

// A block is as many decimal digits as one digit of layer 1 always has room
// for: by so small a number layer 1 divides fastest.
const (
	blockDigits = 9
	blockBase   = 1_000_000_000
)

// Text: a number's digits, without noughts ahead; of 0 one.
func Text(a api.Nat) string {
	blocks := blocksOf(a)
	var text strings.Builder
	for i := range len(blocks) {
		block := strconv.FormatUint(blocks[len(blocks)-1-i], 10)
		if i > 0 {
			text.WriteString(strings.Repeat("0", blockDigits-len(block)))
		}
		text.WriteString(block)
	}
	return text.String()
}

// Parse: the number of digits; ErrForm: they are none; ErrLong: there are too many.
func Parse(s string) (api.Nat, api.Errno) {
	if !allDigits(s) {
		return nil, api.ErrForm
	}
	if len(s) > MaxDigits {
		return nil, api.ErrLong
	}
	head := len(s) % blockDigits
	a := limbs.Of(blockOf(s[:head]))
	for i := range len(s) / blockDigits {
		from := head + i*blockDigits
		a = behind(a, blockOf(s[from:from+blockDigits]))
	}
	return a, api.OK
}

// Ten: 10 to the power of n; ErrRange: n is below 0; ErrLimbs: that is too great.
func Ten(n int) (api.Nat, api.Errno) {
	if n < 0 {
		return nil, api.ErrRange
	}
	if n == 0 {
		return limbs.Of(1), api.OK
	}
	half, e := Ten(n / 2)
	if e != api.OK {
		return nil, e
	}
	both, e := limbs.Mul(half, half)
	if e != api.OK || n%2 == 0 {
		return both, e
	}
	return limbs.Mul(both, limbs.Of(10))
}

// Gcd: the greatest number that divides both; of 0 and 0 that.
func Gcd(a, b api.Nat) api.Nat {
	for limbs.Bits(b) > 0 {
		// Of what is no number Div leaves nothing, so that this ends there too.
		_, rest, _ := limbs.Div(a, b)
		if small, e := limbs.Small(b); e == api.OK {
			left, _ := limbs.Small(rest)
			return limbs.Of(gcdSmall(small, left))
		}
		a, b = b, rest
	}
	return slices.Clone(a)
}

// gcdSmall is Gcd of small numbers, which are most of those that are asked.
func gcdSmall(a, b uint64) uint64 {
	for b > 0 {
		a, b = b, a%b
	}
	return a
}

// blocksOf gives a number's blocks, the lowest first, of 0 one; none, if it is
// no number.
func blocksOf(a api.Nat) []uint64 {
	var blocks []uint64
	for {
		rest, block, e := limbs.Div(a, limbs.Of(blockBase))
		if e != api.OK {
			return nil
		}
		n, _ := limbs.Small(block)
		blocks = append(blocks, n)
		if limbs.Bits(rest) == 0 {
			return blocks
		}
		a = rest
	}
}

// behind gives a number with one block more behind its digits. There is always
// room for them: MaxDigits digits are less than layer 1's greatest number.
func behind(a api.Nat, block uint64) api.Nat {
	a, _ = limbs.Mul(a, limbs.Of(blockBase))
	a, _ = limbs.Add(a, limbs.Of(block))
	return a
}

// blockOf gives the number of a block's digits.
func blockOf(s string) uint64 {
	var n uint64
	for _, sign := range s {
		n = n*10 + uint64(sign-'0')
	}
	return n
}

// allDigits tells whether a text is digits, and not empty.
func allDigits(s string) bool {
	for _, sign := range s {
		if sign < '0' || sign > '9' {
			return false
		}
	}
	return s != ""
}
