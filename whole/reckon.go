package whole

import (
	"girdle/api"
	"girdle/limbs"
)

// Add: both together; ErrLimbs: that has too many digits.
func Add(a, b api.Int) (api.Int, api.Errno) {
	if a.Minus == b.Minus {
		size, e := limbs.Add(a.Size, b.Size)
		return answer(a.Minus, size, e)
	}
	if limbs.Compare(a.Size, b.Size) < 0 {
		a, b = b, a
	}
	size, e := limbs.Sub(a.Size, b.Size)
	return answer(a.Minus, size, e)
}

// Sub: the first one less the second one; ErrLimbs: that has too many digits.
func Sub(a, b api.Int) (api.Int, api.Errno) {
	return Add(a, turned(b))
}

// Mul: one times the other; ErrLimbs: that has too many digits.
func Mul(a, b api.Int) (api.Int, api.Errno) {
	size, e := limbs.Mul(a.Size, b.Size)
	return answer(a.Minus != b.Minus, size, e)
}

// Sum: all together, one after the other; ErrLimbs: that has too many digits on
// the way.
func Sum(list ...api.Int) (api.Int, api.Errno) {
	var sum api.Int
	for _, a := range list {
		var e api.Errno
		sum, e = Add(sum, a)
		if e != api.OK {
			return api.Int{}, e
		}
	}
	return sum, api.OK
}

// Div: how often one goes into the other, such that what is left is from 0 on,
// below the size of that by which is divided; ErrZero: that is 0.
func Div(a, b api.Int) (api.Int, api.Int, api.Errno) {
	often, rest, e := limbs.Div(a.Size, b.Size)
	if e == api.OK && a.Minus && len(rest) > 0 {
		// Below 0 one more is taken, so that what is left isn't below 0 too.
		often, rest, e = upwards(often, rest, b.Size)
	}
	if e != api.OK {
		return api.Int{}, api.Int{}, e
	}
	return signed(a.Minus != b.Minus, often), signed(false, rest), api.OK
}

// Left: times 2 to the power of n; ErrRange: n is below 0; ErrLimbs: that has
// too many digits.
func Left(a api.Int, n int) (api.Int, api.Errno) {
	size, e := limbs.Left(a.Size, n)
	return answer(a.Minus, size, e)
}

// Right: divided by 2 to the power of n, rounded down; ErrRange: n is below 0.
func Right(a api.Int, n int) (api.Int, api.Errno) {
	size, e := limbs.Right(a.Size, n)
	if e == api.OK && Sign(a) < 0 && limbs.Tail(a.Size) < n {
		// Below 0 down is away from 0: bits that fall off make one more.
		size, e = limbs.Add(size, limbs.Of(1))
	}
	return answer(a.Minus, size, e)
}

// turned is 0 less a number, with its memory: only to reckon with.
func turned(a api.Int) api.Int {
	return signed(!a.Minus, a.Size)
}

// upwards makes of how often a size goes into another, rounded down, and what
// is left there, how often it does, rounded up, and what is then too much.
func upwards(often, rest, by api.Nat) (api.Nat, api.Nat, api.Errno) {
	// There is room for one more: what leaves something is divided by 2 or more.
	more, _ := limbs.Add(often, limbs.Of(1))
	over, e := limbs.Sub(by, rest)
	return more, over, e
}
