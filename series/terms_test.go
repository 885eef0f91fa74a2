package series_test

import (
	"math"
	"math/big"
	"testing"

	"girdle/api"
	"girdle/dyad"
	"girdle/limbs"
	"girdle/series"
)

// product: 2 to the power of k, times 1, 2 and so on to k.
func product(k int) *big.Int {
	n := power(k)
	for i := 1; i <= k; i++ {
		n.Mul(n, big.NewInt(int64(i)))
	}
	return n
}

func TestTerms(t *testing.T) {
	for bits := 8; bits <= 512; bits++ {
		k, left := series.Terms(bits)
		size := product(k).BitLen()
		if size < bits+2 || product(k-1).BitLen() >= bits+2 {
			t.Errorf("%d terms for %d bits", k, bits)
		}
		want := new(big.Rat).SetFrac(big.NewInt(4), power(size))
		if dyad.Check(left) != api.OK || value(left).Cmp(want) != 0 {
			t.Errorf("of %d bits is left %s, not %s", bits, value(left), want)
		}
		if value(left).Cmp(new(big.Rat).SetFrac(big.NewInt(1), power(bits))) > 0 {
			t.Errorf("of %d bits is left %s", bits, value(left))
		}
	}
}

// What is left is no less than what the terms behind it come to, for a half.
func TestTermsLeave(t *testing.T) {
	for _, bits := range []int{8, 9, 10, 16, 31, 64, 100, 512} {
		k, left := series.Terms(bits)
		sum := new(big.Rat)
		for i := k; i < k+200; i++ {
			sum.Add(sum, new(big.Rat).SetFrac(big.NewInt(1), product(i)))
		}
		if value(left).Cmp(sum) < 0 {
			t.Errorf("of %d bits more is left than %s", bits, value(left))
		}
	}
}

func TestTermsByHand(t *testing.T) {
	for _, x := range []struct{ bits, terms, exp int }{
		{8, 5, -10}, {9, 5, -10}, {10, 5, -10}, {11, 6, -14}, {14, 6, -14}, {15, 7, -18},
	} {
		k, left := series.Terms(x.bits)
		if k != x.terms || dyad.Compare(left, dyad.Of(1, x.exp)) != 0 {
			t.Errorf("Terms(%d): %d, %s", x.bits, k, value(left))
		}
	}
}

// Of other bits nothing is told.
func TestTermsOfWrongBits(t *testing.T) {
	for _, bits := range []int{math.MinInt, -1, 0, 7, 513, 1 << 30, math.MaxInt} {
		if k, left := series.Terms(bits); k != 0 || limbs.Bits(left.Man.Size) != 0 || left.Exp != 0 {
			t.Errorf("Terms(%d): %d, %s", bits, k, value(left))
		}
	}
}
