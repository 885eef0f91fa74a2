package series

import (
	"girdle/api"
	"girdle/mat"
	"girdle/span"
)

// Layer 8 has no room for tables of numbers that are far apart, though these may
// be what a table grows to: so square ones are reckoned with here.

// timesTable gives one table times another one, rounded.
func timesTable(a, b [][]api.Span, bits int) ([][]api.Span, api.Errno) {
	all := zeros(len(a))
	for i, row := range a {
		for j := range all[i] {
			for at, x := range row {
				part, e := mulSpans(x, b[at][j], bits)
				if e != api.OK {
					return nil, e
				}
				all[i][j], e = addSpans(all[i][j], part, bits)
				if e != api.OK {
					return nil, e
				}
			}
		}
	}
	return all, api.OK
}

// plusTable gives both tables together, rounded.
func plusTable(a, b [][]api.Span, bits int) ([][]api.Span, api.Errno) {
	return eachPlace(a, func(i, j int) (api.Span, api.Errno) { return addSpans(a[i][j], b[i][j], bits) })
}

// scaledTable gives a table times a number, rounded.
func scaledTable(a [][]api.Span, by api.Span, bits int) ([][]api.Span, api.Errno) {
	return eachPlace(a, func(i, j int) (api.Span, api.Errno) { return mulSpans(a[i][j], by, bits) })
}

// roundedTable gives a table of numbers of so many bits.
func roundedTable(a [][]api.Span, bits int) ([][]api.Span, api.Errno) {
	return eachPlace(a, func(i, j int) (api.Span, api.Errno) { return span.Round(a[i][j], bits) })
}

// eachPlace gives what is made of each place of a square table; none, if one has an
// error.
func eachPlace(a [][]api.Span, do func(i, j int) (api.Span, api.Errno)) ([][]api.Span, api.Errno) {
	all := zeros(len(a))
	for i := range all {
		for j := range all[i] {
			var e api.Errno
			all[i][j], e = do(i, j)
			if e != api.OK {
				return nil, e
			}
		}
	}
	return all, api.OK
}

// zeros gives a square table of 0 alone.
func zeros(n int) [][]api.Span {
	return mat.Even(n, api.Dyad{})
}

// ones gives a square table of 1 from the first corner to the last one, else 0.
func ones(n int) [][]api.Span {
	all := zeros(n)
	for i := range all {
		all[i][i] = span.Point(power(0))
	}
	return all
}
