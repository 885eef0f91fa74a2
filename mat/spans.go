package mat

import (
	"slices"

	"girdle/api"
	"girdle/dyad"
	"girdle/span"
	"girdle/vec"
)

// Near: ratios as spans of so many bits; layer 7's errors.
func Near(a [][]api.Rat, bits int) ([][]api.Span, api.Errno) {
	return rowwise(a, func(row []api.Rat) ([]api.Span, api.Errno) { return vec.Near(row, bits) })
}

// Times: one table of spans times another one, rounded; ErrShape: rows are of
// unlike lengths, or the tables don't fit; layer 7's errors.
func Times(a, b [][]api.Span, bits int) ([][]api.Span, api.Errno) {
	return product(a, b, inner(bits))
}

// On: a table of spans times a list, rounded; errors as of Times.
func On(a [][]api.Span, x []api.Span, bits int) ([]api.Span, api.Errno) {
	return applied(a, x, inner(bits))
}

// Plus: both together, row by row, rounded; ErrShape: rows of both are of unlike
// lengths; layer 7's errors.
func Plus(a, b [][]api.Span, bits int) ([][]api.Span, api.Errno) {
	return rowPairs(a, b, func(x, y []api.Span) ([]api.Span, api.Errno) { return vec.Plus(x, y, bits) })
}

// Even: a square table of spans from a size below 0 to it.
func Even(n int, size api.Dyad) [][]api.Span {
	a := make([][]api.Span, held(n))
	for i := range a {
		a[i] = make([]api.Span, len(a))
		for at := range a[i] {
			a[i][at] = span.Even(size)
		}
	}
	return a
}

// Size: the greatest sum of a row's sizes, each sum rounded upwards to so many
// bits: no ratios that the spans hold have a greater norm; layer 5's errors.
func Size(a [][]api.Span, bits int) (api.Dyad, api.Errno) {
	sums, e := rowwise(a, func(row []api.Span) (api.Dyad, api.Errno) { return roundedSum(row, bits) })
	if e != api.OK {
		return api.Dyad{}, e
	}
	var greatest api.Dyad
	for _, sum := range sums {
		greatest = dyad.Max(greatest, sum)
	}
	return greatest, api.OK
}

// Holds: do spans hold these ratios, place by place? ErrShape: rows of both are of
// unlike lengths; layer 7's error, if there is one in any row.
func Holds(a [][]api.Span, x [][]api.Rat) (bool, api.Errno) {
	held, e := rowPairs(a, x, vec.Holds)
	if e != api.OK {
		return false, e
	}
	return !slices.Contains(held, false), api.OK
}

// inner gives layer 7's Inner of so many bits.
func inner(bits int) func(a, b []api.Span) (api.Span, api.Errno) {
	return func(a, b []api.Span) (api.Span, api.Errno) { return vec.Inner(a, b, bits) }
}

// roundedSum gives the sizes of a row's spans together, from the first one on,
// each sum rounded upwards.
func roundedSum(row []api.Span, bits int) (api.Dyad, api.Errno) {
	var sum api.Dyad
	for i, x := range row {
		var e api.Errno
		more := span.Size(x)
		// The first one isn't added to 0: that is refused where it is too great to
		// be a whole number.
		if i > 0 {
			more, e = dyad.Add(sum, more)
			if e != api.OK {
				return api.Dyad{}, e
			}
		}
		sum, e = dyad.Round(more, bits, true)
		if e != api.OK {
			return api.Dyad{}, e
		}
	}
	return sum, api.OK
}
