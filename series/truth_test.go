package series_test

import (
	"math/big"
	"testing"

	"girdle/api"
	"girdle/ratio"
	"girdle/series"
)

// truth reckons with whole numbers of 2 to the power of 0 less truthBits, each
// rounded to the next one: so what it tells is off by far less than off, for a norm
// of up to 100.
const truthBits = 3000

// off is by how much what it tells may be off.
func off() *big.Rat { return new(big.Rat).SetFrac(big.NewInt(1), power(truthBits/2)) }

// fixed: a ratio as such a number.
func fixed(r *big.Rat) *big.Int {
	n := new(big.Int).Lsh(r.Num(), truthBits)
	return n.Quo(n, r.Denom())
}

// fixedTimes: one square table of such numbers times another one, divided by n.
func fixedTimes(a, b [][]*big.Int, n int64) [][]*big.Int {
	all := make([][]*big.Int, len(a))
	for i := range a {
		for j := range a {
			sum := new(big.Int)
			for at := range a {
				sum.Add(sum, new(big.Int).Mul(a[i][at], b[at][j]))
			}
			all[i] = append(all[i], sum.Quo(sum.Rsh(sum, truthBits), big.NewInt(n)))
		}
	}
	return all
}

// truth: the exponential of a table times a time, and its integral, term by term.
func truth(a [][]api.Rat, time api.Rat) (exp, sum [][]*big.Rat) {
	b, term := make([][]*big.Int, len(a)), make([][]*big.Int, len(a))
	total, mean := make([][]*big.Int, len(a)), make([][]*big.Int, len(a))
	for i := range a {
		for j := range a {
			b[i] = append(b[i], fixed(new(big.Rat).Mul(rational(a[i][j]), rational(time))))
			one := new(big.Int)
			if i == j {
				one.Lsh(big.NewInt(1), truthBits)
			}
			term[i] = append(term[i], one)
			total[i] = append(total[i], new(big.Int).Set(one))
			mean[i] = append(mean[i], new(big.Int).Set(one))
		}
	}
	for n := int64(1); n < 900; n++ {
		term = fixedTimes(term, b, n)
		for i := range a {
			for j := range a {
				total[i][j].Add(total[i][j], term[i][j])
				mean[i][j].Add(mean[i][j], new(big.Int).Quo(term[i][j], big.NewInt(n+1)))
			}
		}
	}
	exp, sum = make([][]*big.Rat, len(a)), make([][]*big.Rat, len(a))
	for i := range a {
		for j := range a {
			exp[i] = append(exp[i], new(big.Rat).SetFrac(total[i][j], power(truthBits)))
			sum[i] = append(sum[i], new(big.Rat).Mul(new(big.Rat).SetFrac(mean[i][j], power(truthBits)), rational(time)))
		}
	}
	return exp, sum
}

// greatest: the greatest size in a table.
func greatest(a [][]*big.Rat) *big.Rat {
	most := new(big.Rat)
	for _, row := range a {
		for _, x := range row {
			if size := new(big.Rat).Abs(x); size.Cmp(most) > 0 {
				most = size
			}
		}
	}
	return most
}

// holds: does a table of spans hold the true numbers, and nothing else that so many
// bits could tell? Five of the last bit: of the number there, or of 1, or of the
// greatest one, if that is less.
func holds(t *testing.T, what string, a [][]api.Span, want [][]*big.Rat, bits int) {
	t.Helper()
	unit := greatest(want)
	if one := big.NewRat(1, 1); unit.Cmp(one) > 0 {
		unit = one
	}
	for i, row := range a {
		for j, x := range row {
			lo, hi := value(x.Lo), value(x.Hi)
			if new(big.Rat).Sub(lo, want[i][j]).Cmp(off()) > 0 || new(big.Rat).Sub(want[i][j], hi).Cmp(off()) > 0 {
				t.Errorf("%.300s: at %d, %d it doesn't hold %s", what, i, j, want[i][j].FloatString(60))
			}
			most := new(big.Rat).Abs(want[i][j])
			if most.Cmp(unit) < 0 {
				most = unit
			}
			most = new(big.Rat).Mul(most, new(big.Rat).SetFrac(big.NewInt(5), power(bits)))
			if width := new(big.Rat).Sub(hi, lo); width.Cmp(most) > 0 {
				t.Errorf("%.300s: at %d, %d it is %s wide", what, i, j, width.FloatString(60))
			}
		}
	}
}

// isTrue: are both what they are to be, of a table and a time?
func isTrue(t *testing.T, p series.Growth, a [][]api.Rat, time api.Rat, bits int) {
	t.Helper()
	exp, sum := truth(a, time)
	what := told(a) + " for " + ratio.Text(time)
	holds(t, "the exponential of "+what, p.Exp, exp, bits)
	holds(t, "the integral of "+what, p.Sum, sum, bits)
}
