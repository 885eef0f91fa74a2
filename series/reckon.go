package series

import (
	"girdle/api"
	"girdle/dyad"
	"girdle/limbs"
	"girdle/span"
	"girdle/whole"
)

// apart is how many bits two numbers that are added may be apart: there is room for
// these at the lesser power of 2, and no more are reckoned with.
const apart = 3 * dyad.MaxBits

// leastFactor is the exponent of the power of 2 to whose multiples numbers are rounded
// that are multiplied: so the product of two of them has an exponent within bounds.
const leastFactor = -dyad.MaxExp / 2

// add gives both together, rounded. Layer 5 refuses to add what is too far apart;
// here the lesser one is then rounded ahead of that, the same way.
func add(a, b api.Dyad, bits int, up bool) (api.Dyad, api.Errno) {
	switch { // to 0 nothing is added: a very great number would have no room beside it
	case dyad.Sign(a) == 0:
		return dyad.Round(b, bits, up)
	case dyad.Sign(b) == 0:
		return dyad.Round(a, bits, up)
	case top(a) < top(b):
		a, b = b, a
	}
	b = multiple(b, top(a)-apart, up)
	if dyad.Sign(b) == 0 {
		return dyad.Round(a, bits, up)
	}
	sum, e := dyad.Add(a, b)
	if e != api.OK {
		return api.Dyad{}, e
	}
	return dyad.Round(sum, bits, up)
}

// addSpans gives all that two can come to together, rounded.
func addSpans(a, b api.Span, bits int) (api.Span, api.Errno) {
	lo, e := add(a.Lo, b.Lo, bits, false)
	if e != api.OK {
		return api.Span{}, e
	}
	hi, e := add(a.Hi, b.Hi, bits, true)
	if e != api.OK {
		return api.Span{}, e
	}
	return api.Span{Lo: lo, Hi: hi}, api.OK
}

// mulSpans gives all that one times the other can come to, rounded; what is as
// small as hardly can be is rounded ahead of that. An error: it is too great.
func mulSpans(a, b api.Span, bits int) (api.Span, api.Errno) {
	if isZero(a) || isZero(b) {
		return api.Span{}, api.OK
	}
	return span.Mul(multiples(a), multiples(b), bits)
}

// multiple rounds a number to a multiple of 2 to the power of exp.
func multiple(a api.Dyad, exp int, up bool) api.Dyad {
	if a.Exp >= exp {
		return a
	}
	if up {
		return dyad.Neg(multiple(dyad.Neg(a), exp, false))
	}
	// Neither has an error: the exponent grows, but not beyond that of the first bit.
	man, _ := whole.Right(a.Man, exp-a.Exp)
	a, _ = dyad.Make(man, exp)
	return a
}

// multiples rounds a span outwards to multiples of the least power of 2 that are
// reckoned with.
func multiples(a api.Span) api.Span {
	return api.Span{Lo: multiple(a.Lo, leastFactor, false), Hi: multiple(a.Hi, leastFactor, true)}
}

// near gives a ratio as a span of so many bits, or one or two of the last of them
// more. Layer 5 has no room to divide some: here what stands above and below is
// rounded ahead of that.
func near(a api.Rat, bits int) (api.Span, api.Errno) {
	above, e := nearWhole(a.Num, bits)
	if e != api.OK {
		return api.Span{}, e
	}
	below, e := nearWhole(api.Int{Size: a.Den}, bits)
	if e != api.OK {
		return api.Span{}, e
	}
	lo, e := inverse(below.Hi, bits, false)
	if e != api.OK {
		return api.Span{}, e
	}
	hi, e := inverse(below.Lo, bits, true)
	if e != api.OK {
		return api.Span{}, e
	}
	return mulSpans(above, api.Span{Lo: lo, Hi: hi}, bits)
}

// nearWhole gives a whole number as a span of so many bits.
func nearWhole(a api.Int, bits int) (api.Span, api.Errno) {
	exact, e := dyad.Make(a, 0)
	if e != api.OK {
		return api.Span{}, e
	}
	return span.Round(span.Point(exact), bits)
}

// inverse gives 1 divided by a number above 0, rounded.
func inverse(a api.Dyad, bits int, up bool) (api.Dyad, api.Errno) {
	part, e := dyad.Near(api.Rat{Num: whole.Of(1), Den: a.Man.Size}, bits, up)
	if e != api.OK {
		return api.Dyad{}, e
	}
	return dyad.Mul(part, power(-a.Exp))
}

// top tells of which power of 2 a number's highest bit is, and one more.
func top(a api.Dyad) int {
	return limbs.Bits(a.Man.Size) + a.Exp
}

// isZero tells whether a span is 0 alone.
func isZero(a api.Span) bool {
	return dyad.Sign(a.Lo) == 0 && dyad.Sign(a.Hi) == 0
}
