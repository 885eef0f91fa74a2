package series

import (
	"girdle/api"
	"girdle/dyad"
	"girdle/span"
	"girdle/vec"
)

// spareBits is how many bits are spared for what is rounded, whatever the table is,
// and spareSize the greatest power of 2 of such bits for what it grows to.
const (
	spareBits = 40
	spareSize = 8
)

// sharp reckons with more bits than are asked for, and with twice as many again,
// till what is off can't be told with those. What more bits wouldn't mend is told
// at once: an error in spite of what is sharp by now.
func sharp(a [][]api.Rat, t api.Rat, exp, bits int) (Growth, api.Errno) {
	halves := max(exp+1, 0)
	for more := bits + spareBits + halves + 1<<min(halves, spareSize); ; more *= 2 {
		more = min(more, dyad.MaxBits)
		p, e := systemOf(a, t, exp, more).growth()
		if isSharp(p, bits) || more == dyad.MaxBits {
			return p, e
		}
	}
}

// sharpBits is by how many bits more than can be told something is to be sharp.
const sharpBits = 4

// leastUnit is the exponent of a power of 2 below which nothing has to be sharp.
const leastUnit = -1 << 13

// isSharp tells whether what is off at each place of both tables can't be told with
// so many bits: of the number there, or of 1, or, where all are less than that, of
// the greatest one.
func isSharp(p Growth, bits int) bool {
	return isSharpTable(p.Exp, bits+sharpBits) && isSharpTable(p.Sum, bits+sharpBits)
}

// isSharpTable tells it of one table.
func isSharpTable(a [][]api.Span, bits int) bool {
	unit := power(leastUnit)
	for _, row := range a {
		unit = dyad.Max(unit, dyad.Min(vec.Norm(row), power(0)))
	}
	for _, row := range a {
		for _, x := range row {
			if !isSharpSpan(x, unit, bits) {
				return false
			}
		}
	}
	return true
}

// isSharpSpan tells it of one number.
func isSharpSpan(a api.Span, unit api.Dyad, bits int) bool {
	off, e := add(a.Hi, dyad.Neg(a.Lo), bits, true)
	if e != api.OK {
		return false
	}
	most, e := dyad.Mul(dyad.Max(span.Size(a), unit), power(-bits))
	return e == api.OK && !dyad.Less(most, off)
}
