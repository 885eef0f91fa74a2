package span

import (
	"girdle/api"
	"girdle/dyad"
)

// Near: a ratio between two numbers of so many bits; layer 5's errors.
func Near(a api.Rat, bits int) (api.Span, api.Errno) {
	lo, e := dyad.Near(a, bits, false)
	if e != api.OK {
		return api.Span{}, e
	}
	hi, e := dyad.Near(a, bits, true)
	if e != api.OK {
		return api.Span{}, e
	}
	return api.Span{Lo: lo, Hi: hi}, api.OK
}

// Round: both ends rounded outwards to so many bits; layer 5's errors.
func Round(a api.Span, bits int) (api.Span, api.Errno) {
	lo, e := dyad.Round(a.Lo, bits, false)
	if e != api.OK {
		return api.Span{}, e
	}
	hi, e := dyad.Round(a.Hi, bits, true)
	if e != api.OK {
		return api.Span{}, e
	}
	return api.Span{Lo: lo, Hi: hi}, api.OK
}

// Add: all that two can come to together, rounded; layer 5's errors.
func Add(a, b api.Span, bits int) (api.Span, api.Errno) {
	lo, e := dyad.Add(a.Lo, b.Lo)
	if e != api.OK {
		return api.Span{}, e
	}
	hi, e := dyad.Add(a.Hi, b.Hi)
	if e != api.OK {
		return api.Span{}, e
	}
	return Round(api.Span{Lo: lo, Hi: hi}, bits)
}

// Neg: the other way round.
func Neg(a api.Span) api.Span {
	return api.Span{Lo: dyad.Neg(a.Hi), Hi: dyad.Neg(a.Lo)}
}

// Sub: all that one less the other can come to, rounded; layer 5's errors.
func Sub(a, b api.Span, bits int) (api.Span, api.Errno) {
	return Add(a, Neg(b), bits)
}

// Mul: all that one times the other can come to, rounded; layer 5's errors.
func Mul(a, b api.Span, bits int) (api.Span, api.Errno) {
	products, e := crosswise(ends(a), ends(b))
	if e != api.OK {
		return api.Span{}, e
	}
	return Round(outermost(products), bits)
}

// Sum: all that some can come to together, one after the other, rounded each
// time; layer 5's errors.
func Sum(bits int, list ...api.Span) (api.Span, api.Errno) {
	var sum api.Span
	for i, a := range list {
		var e api.Errno
		if i == 0 {
			sum, e = Round(a, bits)
		} else {
			sum, e = Add(sum, a, bits)
		}
		if e != api.OK {
			return api.Span{}, e
		}
	}
	return sum, api.OK
}

// crosswise gives each end of one times each of the other: what two numbers
// between these come to lies between some of them.
func crosswise(a, b [2]api.Dyad) ([4]api.Dyad, api.Errno) {
	var products [4]api.Dyad
	for i := range products {
		var e api.Errno
		products[i], e = dyad.Mul(a[i/2], b[i%2])
		if e != api.OK {
			return [4]api.Dyad{}, e
		}
	}
	return products, api.OK
}

// outermost gives the span from the least of some numbers to the greatest, with
// their memory: only to reckon with.
func outermost(list [4]api.Dyad) api.Span {
	all := api.Span{Lo: list[0], Hi: list[0]}
	for _, a := range list {
		if dyad.Less(a, all.Lo) {
			all.Lo = a
		}
		if dyad.Less(all.Hi, a) {
			all.Hi = a
		}
	}
	return all
}
