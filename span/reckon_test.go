package span_test

import (
	"fmt"
	"math"
	"math/big"
	"testing"

	"girdle/api"
	"girdle/dyad"
	"girdle/ratio"
	"girdle/span"
)

// widths: how many bits are rounded to.
func widths() []int { return []int{2, 3, 8, 20, 64, 300, dyad.MaxBits} }

// wrongWidths: how many can't be.
func wrongWidths() []int {
	return []int{dyad.MinBits - 1, 0, -1, dyad.MaxBits + 1, math.MaxInt, math.MinInt}
}

// outwards: the span of two ratios, rounded to so many bits.
func outwards(lo, hi *big.Rat, bits int) api.Span {
	return api.Span{Lo: place(lo, bits, false), Hi: place(hi, bits, true)}
}

func TestNear(t *testing.T) {
	d := dice(707)
	for range 200 {
		r := big.NewRat(int64(d.next(1<<40)-1<<39), int64(1+d.next(1<<30)))
		for _, bits := range widths() {
			got, e := span.Near(ratOf(r), bits)
			expect(t, fmt.Sprint("Near of ", r, " of ", bits, " bits"), got, e, outwards(r, r, bits))
			if !holds(got, r) {
				t.Errorf("Near of %s of %d bits doesn't hold it", r, bits)
			}
		}
	}
	got, e := span.Near(ratio.Of(1, 3), 4)
	expect(t, "Near of a third", got, e, of(10, 11, -5))
	got, e = span.Near(ratio.Of(-1, 3), 4)
	expect(t, "Near of a third below 0", got, e, of(-11, -10, -5))
	got, e = span.Near(ratio.Zero(), 4)
	expect(t, "Near of 0", got, e, api.Span{})
	got, e = span.Near(ratio.Of(3, 8), 2)
	expect(t, "Near of what has no more bits", got, e, of(3, 3, -3))
	got, e = span.Near(api.Rat{Num: api.Int{Size: api.Nat{1}}, Den: sizeOf(ones(maxBits))}, 64)
	refuse(t, "Near without room", got, e, api.ErrLimbs)
}

func TestRound(t *testing.T) {
	for _, a := range spans() {
		for _, bits := range widths() {
			got, e := span.Round(a, bits)
			expect(t, fmt.Sprint("Round of ", told(a), " to ", bits, " bits"), got, e, outwards(value(a.Lo), value(a.Hi), bits))
		}
	}
	got, e := span.Round(of(-21, 21, 0), 3)
	expect(t, "Round from -21 to 21", got, e, of(-24, 24, 0))
	got, e = span.Round(of(21, 21, 0), 3)
	expect(t, "Round of 21", got, e, of(20, 24, 0))
	top := number(big.NewInt(7), dyad.MaxExp-2)
	got, e = span.Round(api.Span{Hi: top}, 2)
	refuse(t, "Round beyond", got, e, api.ErrRange)
	got, e = span.Round(api.Span{Lo: dyad.Neg(top)}, 2)
	refuse(t, "Round below", got, e, api.ErrRange)
}

// pairs: Add, Sub and Mul, and what they make of two numbers.
func pairs() map[string]struct {
	call func(a, b api.Span, bits int) (api.Span, api.Errno)
	with func(a, b *big.Rat) *big.Rat
} {
	return map[string]struct {
		call func(a, b api.Span, bits int) (api.Span, api.Errno)
		with func(a, b *big.Rat) *big.Rat
	}{
		"Add": {span.Add, plus}, "Sub": {span.Sub, minus}, "Mul": {span.Mul, times},
	}
}

// Of what each two ends come to, the least and the greatest are the ends; and what
// all numbers between come to lies between these.
func TestAddSubMul(t *testing.T) {
	for name, pair := range pairs() {
		for _, a := range spans() {
			for _, b := range spans() {
				var all []*big.Rat
				for _, x := range within(a) {
					for _, y := range within(b) {
						all = append(all, pair.with(x, y))
					}
				}
				lo, hi := all[0], all[0]
				for _, r := range all {
					lo, hi = smaller(lo, r), greater(hi, r)
				}
				for _, bits := range widths() {
					got, e := pair.call(a, b, bits)
					expect(t, fmt.Sprint(name, " of ", told(a), " and ", told(b), " to ", bits, " bits"), got, e, outwards(lo, hi, bits))
				}
			}
		}
	}
}

func TestAddSubMulByHand(t *testing.T) {
	for _, x := range []struct {
		a, b, sum, rest, product api.Span
	}{
		{of(1, 2, 0), of(-1, 3, 0), of(0, 5, 0), of(-2, 3, 0), of(-2, 6, 0)},
		{of(-2, 3, 0), of(1, 5, 0), of(-1, 8, 0), of(-7, 2, 0), of(-10, 15, 0)},
		{of(-2, 3, 0), of(-5, 7, 0), of(-7, 10, 0), of(-9, 8, 0), of(-15, 21, 0)},
		{of(-3, -2, 0), of(-5, -1, 0), of(-8, -3, 0), of(-2, 3, 0), of(2, 15, 0)},
		{of(-3, -2, 0), of(1, 5, 0), of(-2, 3, 0), of(-8, -3, 0), of(-15, -2, 0)},
		{of(0, 0, 0), of(-7, 9, 0), of(-7, 9, 0), of(-9, 7, 0), of(0, 0, 0)},
		{of(-3, 2, 0), of(-2, 5, 0), of(-5, 7, 0), of(-8, 4, 0), of(-15, 10, 0)},
		{of(-9, 2, 0), of(-8, 5, 0), of(-17, 7, 0), of(-14, 10, 0), of(-45, 72, 0)},
		{of(3, 3, 0), of(3, 3, 0), of(6, 6, 0), of(0, 0, 0), of(9, 9, 0)},
	} {
		got, e := span.Add(x.a, x.b, 20)
		expect(t, "Add of "+told(x.a)+" and "+told(x.b), got, e, x.sum)
		got, e = span.Sub(x.a, x.b, 20)
		expect(t, "Sub of "+told(x.a)+" and "+told(x.b), got, e, x.rest)
		got, e = span.Mul(x.a, x.b, 20)
		expect(t, "Mul of "+told(x.a)+" and "+told(x.b), got, e, x.product)
	}
}

func TestNeg(t *testing.T) {
	for _, a := range spans() {
		got := span.Neg(a)
		expect(t, "Neg of "+told(a), got, api.OK, api.Span{Lo: dyad.Neg(a.Hi), Hi: dyad.Neg(a.Lo)})
		expect(t, "Neg of that", span.Neg(got), api.OK, a)
	}
	expect(t, "Neg from -2 to 3", span.Neg(of(-2, 3, 0)), api.OK, of(-3, 2, 0))
}

func TestWrongWidths(t *testing.T) {
	for _, bits := range wrongWidths() {
		for _, a := range []api.Span{{}, of(-2, 3, 0), of(1<<40, 1<<41, 0)} {
			what := fmt.Sprint(told(a), " and ", bits, " bits")
			for name, pair := range pairs() {
				got, e := pair.call(a, of(1, 2, 0), bits)
				refuse(t, name+" of "+what, got, e, api.ErrRange)
			}
			got, e := span.Near(ratio.Of(1, 3), bits)
			refuse(t, "Near of "+what, got, e, api.ErrRange)
			got, e = span.Round(a, bits)
			refuse(t, "Round of "+what, got, e, api.ErrRange)
			got, e = span.Sum(bits, a)
			refuse(t, "Sum of one, "+what, got, e, api.ErrRange)
			got, e = span.Sum(bits, a, a)
			refuse(t, "Sum of "+what, got, e, api.ErrRange)
		}
	}
}

// What has no room, or is beyond, at one end or at the other one: layer 5's errors.
func TestErrorsOfTheLayerBelow(t *testing.T) {
	top, tiny, long := number(big.NewInt(1), dyad.MaxExp), number(big.NewInt(1), -dyad.MaxExp), number(ones(maxBits), 0)
	one := of(1, 1, 0)
	for _, x := range []struct {
		what string
		call func(a, b api.Span, bits int) (api.Span, api.Errno)
		a, b api.Span
		want api.Errno
	}{
		{"Add at the second end", span.Add, api.Span{Hi: top}, one, api.ErrLimbs},
		{"Add at the first end", span.Add, api.Span{Lo: dyad.Neg(top), Hi: dyad.Of(1, 0)}, one, api.ErrLimbs},
		{"Add beyond", span.Add, span.Point(top), span.Point(top), api.ErrRange},
		{"Add with a digit more", span.Add, span.Point(long), one, api.ErrLimbs},
		{"Sub at the second end", span.Sub, api.Span{Hi: top}, one, api.ErrLimbs},
		{"Sub beyond", span.Sub, span.Even(top), span.Point(top), api.ErrRange},
		{"Mul with more digits", span.Mul, span.Point(long), api.Span{Hi: dyad.Of(3, 0)}, api.ErrLimbs},
		{"Mul with more digits at the first end", span.Mul, api.Span{Lo: dyad.Neg(long)}, api.Span{Hi: dyad.Of(3, 0)}, api.ErrLimbs},
		{"Mul beyond", span.Mul, span.Point(top), of(2, 3, 0), api.ErrRange},
		{"Mul below", span.Mul, api.Span{Hi: tiny}, of(0, 1, -1), api.ErrRange},
		{"Mul of the least and the greatest", span.Mul, api.Span{Hi: tiny}, api.Span{Hi: top}, api.OK},
		{"Add of the least ones", span.Add, api.Span{Hi: tiny}, api.Span{Hi: tiny}, api.OK},
	} {
		got, e := x.call(x.a, x.b, 64)
		if x.want != api.OK {
			refuse(t, x.what, got, e, x.want)
		} else if e != api.OK {
			t.Errorf("%s: error %d", x.what, e)
		}
	}
}

func TestSum(t *testing.T) {
	list := spans()
	d := dice(8128)
	for range 200 {
		bits := widths()[d.next(len(widths()))]
		var all []api.Span
		lo, hi := new(big.Rat), new(big.Rat)
		for range d.next(7) {
			a := list[d.next(len(list))]
			all = append(all, a)
			lo = value(place(plus(lo, value(a.Lo)), bits, false))
			hi = value(place(plus(hi, value(a.Hi)), bits, true))
		}
		got, e := span.Sum(bits, all...)
		expect(t, fmt.Sprint("Sum of ", len(all), " to ", bits, " bits"), got, e, outwards(lo, hi, bits))
	}
}

func TestSumByHand(t *testing.T) {
	got, e := span.Sum(10)
	expect(t, "none", got, e, api.Span{})
	got, e = span.Sum(10, of(-2, 3, 0), of(-2, 3, 0), of(1, 5, 0))
	expect(t, "three", got, e, of(-3, 11, 0))
	got, e = span.Sum(3, of(-21, 21, 0))
	expect(t, "one is rounded, too", got, e, of(-24, 24, 0))
	// Rounded each time, it goes from 8 to 10 to 12 to 14; once, it would go to 11.
	got, e = span.Sum(3, of(8, 8, 0), of(1, 1, 0), of(1, 1, 0), of(1, 1, 0))
	expect(t, "rounded each time", got, e, of(8, 14, 0))
	got, e = span.Sum(3, of(1, 1, 0), of(1, 1, 0), of(1, 1, 0), of(8, 8, 0))
	expect(t, "in another order", got, e, of(10, 12, 0))
	far := number(big.NewInt(5), dyad.MaxExp-9)
	got, e = span.Sum(8, span.Point(far))
	expect(t, "one far away, which is but rounded", got, e, span.Point(far))
	got, e = span.Sum(8, span.Point(far), of(1, 1, 0), span.Neg(span.Point(far)))
	refuse(t, "one far away, and one near", got, e, api.ErrLimbs)
	got, e = span.Sum(8, of(1, 1, 0), span.Point(number(big.NewInt(1), dyad.MaxExp)))
	refuse(t, "one near, and one far away", got, e, api.ErrLimbs)
}
