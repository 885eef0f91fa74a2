package dyad_test

import (
	"fmt"
	"math"
	"math/big"
	"testing"

	"girdle/api"
	"girdle/dyad"
	"girdle/ratio"
)

// widths: how many bits are rounded to.
func widths() []int {
	return []int{2, 3, 4, 5, 8, 16, 31, 32, 33, 63, 64, 65, 100, 299, 300, 1000, 4095, 4096}
}

// wrongWidths: how many can't be.
func wrongWidths() []int {
	return []int{dyad.MinBits - 1, 0, -1, dyad.MaxBits + 1, 1 << 20, math.MaxInt, math.MinInt}
}

// down: a number divided by 2 to the power of n, down, or up.
func down(man *big.Int, n int, up bool) *big.Int {
	if up {
		return new(big.Int).Neg(down(new(big.Int).Neg(man), n, false))
	}
	return new(big.Int).Rsh(man, uint(n)) // the library rounds down below 0 too
}

func rounding(t *testing.T, x number, bits int, up bool) {
	t.Helper()
	what := fmt.Sprint("Round of ", x, " to ", bits, " bits, up ", up)
	got, e := dyad.Round(x.dyad(), bits, up)
	over := x.man.BitLen() - bits
	if over <= 0 {
		expect(t, what, got, e, x)
		return
	}
	want := lowest(down(x.man, over, up), x.exp+over)
	expect(t, what, got, e, want)
	if want.man.BitLen() > bits {
		t.Errorf("%s: it has %d bits", what, want.man.BitLen())
	}
}

func TestRound(t *testing.T) {
	for _, x := range append(numbers(), bounds()...) {
		for _, bits := range widths() {
			rounding(t, x, bits, false)
			rounding(t, x, bits, true)
		}
	}
}

func TestRoundOfSmall(t *testing.T) {
	for n := int64(-300); n <= 300; n++ {
		for bits := 2; bits < 9; bits++ {
			rounding(t, of(n, -3), bits, false)
			rounding(t, of(n, -3), bits, true)
		}
	}
}

func TestRoundByHand(t *testing.T) {
	for _, x := range []struct {
		n    int64
		bits int
		up   bool
		want int64
	}{
		{21, 3, false, 20}, {21, 3, true, 24}, {-21, 3, false, -24}, {-21, 3, true, -20},
		{20, 3, false, 20}, {20, 3, true, 20}, {31, 2, true, 32}, {31, 2, false, 24}, {-31, 2, false, -32}, {-31, 2, true, -24},
		{7, 2, false, 6}, {7, 2, true, 8}, {7, 3, true, 7}, {9, 2, false, 8}, {9, 2, true, 12}, {9, 3, true, 10}, {-9, 3, true, -8}, {0, 2, true, 0},
	} {
		got, e := dyad.Round(dyad.Of(x.n, 0), x.bits, x.up)
		expect(t, fmt.Sprint("Round of ", x.n, " to ", x.bits, " bits, up ", x.up), got, e, of(x.want, 0))
	}
}

// What is rounded may be beyond what may be: Make's error.
func TestRoundBeyond(t *testing.T) {
	for _, x := range []struct {
		a    number
		bits int
		up   bool
		want api.Errno
	}{
		{of(5, dyad.MaxExp), 3, true, api.OK},
		{of(5, dyad.MaxExp), 2, false, api.ErrRange},
		{of(5, dyad.MaxExp), 2, true, api.ErrRange},
		{of(5, dyad.MaxExp-1), 2, true, api.OK},        // 6
		{of(5, dyad.MaxExp-1), 2, false, api.ErrRange}, // 4
		{of(5, dyad.MaxExp-2), 2, false, api.OK},
		{of(7, dyad.MaxExp-2), 2, true, api.ErrRange}, // 8
		{of(7, dyad.MaxExp-2), 2, false, api.OK},      // 6
		{of(-7, dyad.MaxExp-2), 2, false, api.ErrRange},
		{lowest(ones(maxBits), -dyad.MaxExp), 2, true, api.OK},
	} {
		got, e := dyad.Round(x.a.dyad(), x.bits, x.up)
		if e != x.want {
			t.Errorf("Round of %s to %d bits, up %t: error %d, not %d", x.a, x.bits, x.up, e, x.want)
		}
		if e != api.OK {
			refuse(t, "Round of "+x.a.String(), got, e, x.want)
		}
	}
}

func TestWrongWidths(t *testing.T) {
	for _, bits := range wrongWidths() {
		for _, up := range []bool{false, true} {
			for _, n := range []number{of(0, 0), of(1, 0), of(-5, 3), lowest(ones(300), 0)} {
				got, e := dyad.Round(n.dyad(), bits, up)
				refuse(t, fmt.Sprint("Round of ", n, " to ", bits, " bits"), got, e, api.ErrRange)
				got, e = dyad.Near(ratOf(n.value()), bits, up)
				refuse(t, fmt.Sprint("Near of ", n, " of ", bits, " bits"), got, e, api.ErrRange)
			}
			// That too many bits are asked is told ahead of that there is no room.
			got, e := dyad.Near(api.Rat{Num: intOf(small(1)), Den: sizeOf(ones(maxBits))}, bits, up)
			refuse(t, fmt.Sprint("Near of what has no room, of ", bits, " bits"), got, e, api.ErrRange)
		}
	}
}

func TestRatio(t *testing.T) {
	for _, n := range append(numbers(), bounds()...) {
		got, e := dyad.Ratio(n.dyad())
		want := n.value()
		what := "Ratio of " + n.String()
		if max(want.Num().BitLen(), want.Denom().BitLen()) > maxBits {
			refuseRatio(t, what, got, e)
			continue
		}
		if e != api.OK || !sameRat(got, ratOf(want)) || ratio.Check(got) != api.OK {
			t.Errorf("%s: %v, error %d", what, got, e)
		}
	}
}

// refuseRatio: is the answer ErrLimbs, and 0 beside it?
func refuseRatio(t *testing.T, what string, got api.Rat, e api.Errno) {
	t.Helper()
	if e != api.ErrLimbs || !sameRat(got, ratio.Zero()) {
		t.Errorf("%s: error %d and %v, not ErrLimbs and 0", what, e, got)
	}
}

func TestRatioAtTheBound(t *testing.T) {
	for _, exp := range []int{maxBits - 1, 1 - maxBits} {
		got, e := dyad.Ratio(of(-1, exp).dyad())
		if e != api.OK || !sameRat(got, ratOf(of(-1, exp).value())) {
			t.Errorf("Ratio of -2^%d: error %d", exp, e)
		}
	}
	for _, n := range []number{of(1, maxBits), of(1, -maxBits), of(1, dyad.MaxExp), of(1, -dyad.MaxExp), of(3, maxBits-1), lowest(ones(maxBits), 1)} {
		got, e := dyad.Ratio(n.dyad())
		refuseRatio(t, "Ratio of "+n.String(), got, e)
	}
}

// floor: the exponent of the highest power of 2 that a ratio, above 0, has in it.
func floor(r *big.Rat) int {
	exp := r.Num().BitLen() - r.Denom().BitLen()
	if number.value(of(1, exp)).Cmp(r) > 0 {
		exp--
	}
	return exp
}

// near: the number of so many bits next to a ratio that isn't above it, or, if up,
// isn't below it.
func near(r *big.Rat, bits int, up bool) number {
	if r.Sign() == 0 {
		return of(0, 0)
	}
	exp := floor(new(big.Rat).Abs(r)) - bits + 1
	often := new(big.Rat).Mul(r, of(1, -exp).value())
	n, rest := new(big.Int).DivMod(often.Num(), often.Denom(), new(big.Int))
	if up && rest.Sign() > 0 {
		n.Add(n, small(1))
	}
	return lowest(n, exp)
}

// nearing: does Near answer the number next to a ratio, and keep what is promised
// of it?
func nearing(t *testing.T, r *big.Rat, bits int, up bool) {
	t.Helper()
	what := fmt.Sprint("Near of ", short(r.RatString()), " of ", bits, " bits, up ", up)
	got, e := dyad.Near(ratOf(r), bits, up)
	want := near(r, bits, up)
	expect(t, what, got, e, want)
	if want.man.Sign() == 0 {
		return
	}
	last := of(1, want.man.BitLen()+want.exp-bits).value()
	off := new(big.Rat).Sub(r, want.value())
	if up {
		off.Neg(off)
	}
	if want.man.BitLen() > bits || off.Sign() < 0 || off.Cmp(last) >= 0 {
		t.Errorf("%s: %s isn't next to it", what, want)
	}
}

func TestNear(t *testing.T) {
	d := dice(31415)
	list := []*big.Rat{new(big.Rat), big.NewRat(1, 3), big.NewRat(-1, 3), big.NewRat(1000, 1), big.NewRat(999, 1000), big.NewRat(1<<40, 3), big.NewRat(-3, 1<<40), big.NewRat(7, 11)}
	for range 40 {
		list = append(list, d.rat(1+d.next(9)), d.rat(1+d.next(64)), d.rat(1+d.next(400)))
	}
	for _, r := range list {
		for _, bits := range widths() {
			nearing(t, r, bits, false)
			nearing(t, r, bits, true)
		}
	}
}

func TestNearOfSmall(t *testing.T) {
	for num := int64(-40); num <= 40; num++ {
		for den := int64(1); den <= 40; den++ {
			for bits := 2; bits < 7; bits++ {
				nearing(t, big.NewRat(num, den), bits, false)
				nearing(t, big.NewRat(num, den), bits, true)
			}
		}
	}
}

// Just above, or below, a power of 2, and where all bits are 1.
func TestNearAroundPowers(t *testing.T) {
	for _, bits := range []int{2, 3, 31, 32, 33, 64} {
		for _, exp := range []int{-70, -1, 0, 1, 5, 70} {
			for _, more := range []int{-1, 0, 1, bits - 1, bits, bits + 1, bits + 2} {
				r := of(1, exp).value()
				bit := new(big.Rat).Mul(r, of(1, -more-1).value())
				for _, off := range []*big.Rat{bit, new(big.Rat).Mul(bit, big.NewRat(2, 3)), new(big.Rat).Mul(bit, big.NewRat(4, 3))} {
					for _, x := range []*big.Rat{new(big.Rat).Add(r, off), new(big.Rat).Sub(r, off)} {
						nearing(t, x, bits, false)
						nearing(t, x, bits, true)
						nearing(t, new(big.Rat).Neg(x), bits, false)
						nearing(t, new(big.Rat).Neg(x), bits, true)
					}
				}
			}
		}
	}
}

func TestNearByHand(t *testing.T) {
	for _, x := range []struct {
		num, den  int64
		low, high *big.Rat
	}{
		{1, 3, big.NewRat(5, 16), big.NewRat(11, 32)},
		{-1, 3, big.NewRat(-11, 32), big.NewRat(-5, 16)},
		{3, 8, big.NewRat(3, 8), big.NewRat(3, 8)},
		{1000, 1, big.NewRat(960, 1), big.NewRat(1024, 1)},
		{-1000, 1, big.NewRat(-1024, 1), big.NewRat(-960, 1)},
		{0, 1, new(big.Rat), new(big.Rat)},
		{2, 3, big.NewRat(10, 16), big.NewRat(11, 16)},
	} {
		low, e := dyad.Near(ratio.Of(x.num, x.den), 4, false)
		high, f := dyad.Near(ratio.Of(x.num, x.den), 4, true)
		if e != api.OK || f != api.OK {
			t.Fatalf("Near of %d/%d: errors %d and %d", x.num, x.den, e, f)
		}
		l, _ := dyad.Ratio(low)
		h, _ := dyad.Ratio(high)
		if !sameRat(l, ratOf(x.low)) || !sameRat(h, ratOf(x.high)) {
			t.Errorf("%d/%d: from %s to %s", x.num, x.den, ratio.Text(l), ratio.Text(h))
		}
	}
}

// A number that has no more bits is answered itself, wherever it is.
func TestNearOfItself(t *testing.T) {
	for _, n := range append(numbers(), bounds()...) {
		r := n.value()
		if max(r.Num().BitLen(), r.Denom().BitLen()) > maxBits {
			continue
		}
		for _, bits := range []int{max(n.man.BitLen(), dyad.MinBits), 300, dyad.MaxBits} {
			if n.man.BitLen() > bits || bits > dyad.MaxBits {
				continue
			}
			for _, up := range []bool{false, true} {
				got, e := dyad.Near(ratOf(r), bits, up)
				expect(t, fmt.Sprint("Near of ", n, " of ", bits, " bits"), got, e, n)
			}
		}
	}
}

func TestNearAtTheBound(t *testing.T) {
	for _, r := range []*big.Rat{
		new(big.Rat).SetInt(ones(maxBits)), new(big.Rat).SetFrac(ones(maxBits), small(3)), new(big.Rat).SetFrac(ones(maxBits-1), ones(maxBits-dyad.MaxBits)),
		new(big.Rat).SetFrac(small(1), ones(maxBits-dyad.MaxBits)), new(big.Rat).SetFrac(ones(maxBits), power(maxBits-1)),
	} {
		for _, bits := range []int{2, 64, dyad.MaxBits} {
			for _, up := range []bool{false, true} {
				nearing(t, r, bits, up)
				nearing(t, new(big.Rat).Neg(r), bits, up)
			}
		}
	}
}

// Where what stands above has no room for so many bits more than what stands below.
func TestNearWithoutRoom(t *testing.T) {
	for _, den := range []*big.Int{ones(maxBits), ones(maxBits - 31), new(big.Int).Add(power(maxBits-1), small(1))} {
		for _, num := range []int64{1, -1, 5} {
			for _, up := range []bool{false, true} {
				got, e := dyad.Near(api.Rat{Num: intOf(small(num)), Den: sizeOf(den)}, 64, up)
				refuse(t, "Near without room", got, e, api.ErrLimbs)
			}
		}
	}
}

func TestCmp(t *testing.T) {
	d := dice(2718)
	for _, n := range numbers() {
		value := n.value()
		list := []*big.Rat{
			value, new(big.Rat).Neg(value), new(big.Rat), new(big.Rat).Add(value, big.NewRat(1, 3)), new(big.Rat).Sub(value, big.NewRat(1, 1<<60)), d.rat(1 + d.next(100)),
		}
		for _, r := range list {
			if got, e := dyad.Cmp(n.dyad(), ratOf(r)); e != api.OK || got != value.Cmp(r) {
				t.Errorf("Cmp of %s and %s: %d, error %d", n, r, got, e)
			}
		}
	}
}

func TestCmpWithoutRoom(t *testing.T) {
	for _, x := range []struct {
		a    number
		b    *big.Rat
		want api.Errno
	}{
		{of(1, maxBits-1), big.NewRat(1, 1), api.OK},
		{of(1, maxBits), big.NewRat(1, 1), api.ErrLimbs}, // it has no ratio
		{of(1, -maxBits), new(big.Rat), api.ErrLimbs},
		{of(-1, dyad.MaxExp), big.NewRat(1, 1), api.ErrLimbs},
		{of(1, 1-maxBits), big.NewRat(1, 1), api.OK},
		{of(1, 1-maxBits), big.NewRat(2, 1), api.ErrLimbs}, // crosswise there is no room
		{of(1, maxBits-1), big.NewRat(1, 3), api.ErrLimbs},
	} {
		got, e := dyad.Cmp(x.a.dyad(), ratOf(x.b))
		if e != x.want || e != api.OK && got != 0 {
			t.Errorf("Cmp of %s and %s: %d, error %d, not %d", x.a, x.b, got, e, x.want)
		}
	}
}
