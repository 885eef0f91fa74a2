package dyad

import (
	"girdle/api"
	"girdle/limbs"
	"girdle/ratio"
	"girdle/whole"
)

// Round: the nearest number of so many bits that isn't above it, or, if up, isn't
// below it; ErrRange: these bits, or its exponent, are out of bounds.
func Round(a api.Dyad, bits int, up bool) (api.Dyad, api.Errno) {
	if !mayBeBits(bits) {
		return api.Dyad{}, api.ErrRange
	}
	over := limbs.Bits(a.Man.Size) - bits
	if over <= 0 {
		return copied(a), api.OK
	}
	if up {
		return turned(Round(Neg(a), bits, false))
	}
	man, e := whole.Right(a.Man, over)
	if e != api.OK {
		return api.Dyad{}, e
	}
	return Make(man, a.Exp+over)
}

// Ratio: the number as a ratio; ErrLimbs: there is no room.
func Ratio(a api.Dyad) (api.Rat, api.Errno) {
	if a.Exp >= 0 {
		num, e := whole.Left(a.Man, a.Exp)
		if e != api.OK {
			return ratio.Zero(), e
		}
		return ratio.Whole(num), api.OK
	}
	den, e := limbs.Left(limbs.Of(1), -a.Exp)
	if e != api.OK {
		return ratio.Zero(), e
	}
	// What is odd has no divisor in common with a power of 2.
	return api.Rat{Num: copiedInt(a.Man), Den: den}, api.OK
}

// Near: a number of so many bits that isn't above a ratio, or, if up, isn't below
// it, and not further from it than one in its last bit; ErrRange: these bits are
// out of bounds; ErrLimbs: there is no room to divide.
func Near(a api.Rat, bits int, up bool) (api.Dyad, api.Errno) {
	if !mayBeBits(bits) {
		return api.Dyad{}, api.ErrRange
	}
	if ratio.Sign(a) == 0 {
		return api.Dyad{}, api.OK
	}
	if up {
		return turned(Near(ratio.Neg(a), bits, false))
	}
	near, e := nearly(a, bits)
	if e != api.OK {
		return api.Dyad{}, e
	}
	return Round(near, bits, false)
}

// Cmp: how a number stands to a ratio: -1, 0 or 1; ErrLimbs: there is no room to
// tell.
func Cmp(a api.Dyad, b api.Rat) (int, api.Errno) {
	r, e := Ratio(a)
	if e != api.OK {
		return 0, e
	}
	return ratio.Compare(r, b)
}

// nearly gives a number that rounded down to so many bits is what the ratio is:
// the ratio itself, if what stands below is a power of 2, for then there is room
// for it, however little there would be to divide.
func nearly(a api.Rat, bits int) (api.Dyad, api.Errno) {
	if n := limbs.Tail(a.Den); n == limbs.Bits(a.Den)-1 {
		return Make(a.Num, -n)
	}
	return divided(a, bits)
}

// divided gives a number that isn't above a ratio, of so many bits or one more:
// rounded down again it is no other one than if it were rounded down at once.
func divided(a api.Rat, bits int) (api.Dyad, api.Errno) {
	by := bits + limbs.Bits(a.Den) - limbs.Bits(a.Num.Size)
	num, e := whole.Left(a.Num, max(by, 0))
	if e != api.OK {
		return api.Dyad{}, e
	}
	den, e := limbs.Left(a.Den, max(-by, 0))
	if e != api.OK {
		return api.Dyad{}, e
	}
	often, _, e := whole.Div(num, api.Int{Size: den})
	if e != api.OK {
		return api.Dyad{}, e
	}
	return Make(often, -by)
}

// turned gives 0 less an answer, for to round up is to round down the other way
// round.
func turned(a api.Dyad, e api.Errno) (api.Dyad, api.Errno) {
	return Neg(a), e
}

// mayBeBits tells whether so many bits may be rounded to.
func mayBeBits(bits int) bool {
	return bits >= MinBits && bits <= MaxBits
}
