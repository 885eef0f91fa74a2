package vec

import (
	"slices"

	"girdle/api"
	"girdle/dyad"
	"girdle/span"
)

// Near: ratios as spans of so many bits; layer 6's errors.
func Near(a []api.Rat, bits int) ([]api.Span, api.Errno) {
	return each(a, func(x api.Rat) (api.Span, api.Errno) { return span.Near(x, bits) })
}

// Plus: both together, place by place, rounded; ErrShape: they are of unlike
// lengths; layer 6's errors.
func Plus(a, b []api.Span, bits int) ([]api.Span, api.Errno) {
	return pairwise(a, b, func(x, y api.Span) (api.Span, api.Errno) { return span.Add(x, y, bits) })
}

// Times: each times a span, rounded; layer 6's errors.
func Times(a []api.Span, by api.Span, bits int) ([]api.Span, api.Errno) {
	return each(a, func(x api.Span) (api.Span, api.Errno) { return span.Mul(x, by, bits) })
}

// Inner: place by place times each other, and all together, from the first place
// on, each product and each sum rounded; errors as of Plus.
func Inner(a, b []api.Span, bits int) (api.Span, api.Errno) {
	products, e := pairwise(a, b, func(x, y api.Span) (api.Span, api.Errno) { return span.Mul(x, y, bits) })
	if e != api.OK {
		return api.Span{}, e
	}
	return span.Sum(bits, products...)
}

// Holds: do spans hold these ratios, place by place? ErrShape: they are of unlike
// lengths; layer 6's error, if there is one at any place.
func Holds(a []api.Span, x []api.Rat) (bool, api.Errno) {
	held, e := pairwise(a, x, span.HasRatio)
	if e != api.OK {
		return false, e
	}
	return !slices.Contains(held, false), api.OK
}

// Norm: the greatest size of what some spans hold; 0 of none.
func Norm(a []api.Span) api.Dyad {
	var greatest api.Dyad
	for _, x := range a {
		greatest = dyad.Max(greatest, span.Size(x))
	}
	return greatest
}
