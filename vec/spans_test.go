package vec_test

import (
	"fmt"
	"math"
	"math/big"
	"testing"

	"girdle/api"
	"girdle/dyad"
	"girdle/ratio"
	"girdle/span"
	"girdle/vec"
)

func TestNear(t *testing.T) {
	d := dice(4)
	for i := range 60 {
		a := d.rats(i%20, 50)
		for _, bits := range widths() {
			var want []api.Span
			for _, r := range a {
				want = append(want, outwards(pair{r, r}, bits))
			}
			got, e := vec.Near(ratsOf(a), bits)
			expect(t, fmt.Sprint("Near of ", told(ratsOf(a)), " to ", bits, " bits"), got, e, want)
		}
	}
	got, e := vec.Near([]api.Rat{ratio.Of(1, 3), ratio.Of(-1, 3), ratio.Zero()}, 4)
	expect(t, "Near of thirds", got, e, []api.Span{of(10, 11, -5), of(-11, -10, -5), {}})
}

func TestPlusTimesInner(t *testing.T) {
	d := dice(88)
	for i := range 80 {
		a, b, by := d.spans(i%20, 60), d.spans(i%20, 60), d.span(40)
		for _, bits := range widths() {
			var sums, scaled []api.Span
			var dot api.Span
			for j := range a {
				sums = append(sums, outwards(together(ends(a[j]), ends(b[j])), bits))
				scaled = append(scaled, outwards(product(ends(a[j]), ends(by)), bits))
				one := outwards(product(ends(a[j]), ends(b[j])), bits)
				dot = outwards(together(ends(dot), ends(one)), bits)
			}
			what := fmt.Sprint(" of ", toldSpans(a), " and ", toldSpans(b), " to ", bits, " bits")
			got, e := vec.Plus(a, b, bits)
			expect(t, "Plus"+what, got, e, sums)
			got, e = vec.Times(a, by, bits)
			expect(t, "Times of "+toldSpans(a)+" by "+span.Text(by), got, e, scaled)
			one, e := vec.Inner(a, b, bits)
			expect(t, "Inner"+what, one, e, dot)
		}
	}
}

func TestSpansByHand(t *testing.T) {
	a, b := []api.Span{of(1, 2, 0), of(-1, 3, 0)}, []api.Span{of(-1, 3, 0), of(-2, 1, 0)}
	got, e := vec.Plus(a, b, 20)
	expect(t, "Plus", got, e, []api.Span{of(0, 5, 0), of(-3, 4, 0)})
	got, e = vec.Times(a, of(-2, 3, 0), 20)
	expect(t, "Times", got, e, []api.Span{of(-4, 6, 0), of(-6, 9, 0)})
	one, e := vec.Inner(a, b, 20)
	expect(t, "Inner", one, e, of(-8, 9, 0))
	one, e = vec.Inner(nil, nil, 20)
	expect(t, "Inner of none", one, e, api.Span{})
	got, e = vec.Times(nil, of(1, 2, 0), 20)
	expect(t, "Times of none", got, e, []api.Span{})
}

// Each product is rounded, and each sum: 5 is within 4 and 6, and with 1 more 7 is rounded to 8.
func TestInnerRoundsEachTime(t *testing.T) {
	ones := []api.Span{of(1, 1, 0), of(1, 1, 0), of(1, 1, 0)}
	for _, x := range []struct{ a, want []int64 }{
		{[]int64{5}, []int64{4, 6}},
		{[]int64{5, 1}, []int64{4, 8}},
		{[]int64{1, 5}, []int64{4, 8}},
		{[]int64{5, 1, 1}, []int64{4, 12}},
		{[]int64{1, 1, 5}, []int64{6, 8}},
		{[]int64{1, 1, -5}, []int64{-4, -2}},
		{[]int64{5, -5}, []int64{-2, 2}},
	} {
		var a []api.Span
		for _, n := range x.a {
			a = append(a, of(n, n, 0))
		}
		got, e := vec.Inner(a, ones[:len(a)], 2)
		expect(t, fmt.Sprint("Inner of ", x.a), got, e, of(x.want[0], x.want[1], 0))
	}
}

func TestSpansOfUnlikeLengths(t *testing.T) {
	far := span.Point(number(big.NewInt(1), dyad.MaxExp))
	for many := range 5 {
		for others := range 5 {
			if many == others {
				continue
			}
			var a, b []api.Span
			for range many {
				a = append(a, far) // ErrShape is named ahead of layer 6's errors
			}
			for range others {
				b = append(b, far)
			}
			what := fmt.Sprint(" of ", many, " and ", others)
			got, e := vec.Plus(a, b, 1)
			refuse(t, "Plus"+what, got, e, api.ErrShape)
			one, e := vec.Inner(a, b, 1)
			refuse(t, "Inner"+what, one, e, api.ErrShape)
			yes, e := vec.Holds(a, list(make([]int64, others)...))
			refuse(t, "Holds"+what, yes, e, api.ErrShape)
		}
	}
}

func TestWrongWidths(t *testing.T) {
	for _, bits := range []int{math.MinInt, -1, 0, 1, dyad.MaxBits + 1, math.MaxInt} {
		a := []api.Span{of(1, 2, 0), of(0, 0, 0)}
		what := fmt.Sprint(" to ", bits, " bits")
		got, e := vec.Near(list(1, 2), bits)
		refuse(t, "Near"+what, got, e, api.ErrRange)
		got, e = vec.Plus(a, a, bits)
		refuse(t, "Plus"+what, got, e, api.ErrRange)
		got, e = vec.Times(a, of(1, 2, 0), bits)
		refuse(t, "Times"+what, got, e, api.ErrRange)
		one, e := vec.Inner(a, a, bits)
		refuse(t, "Inner"+what, one, e, api.ErrRange)
		got, e = vec.Near(nil, bits)
		expect(t, "Near of none"+what, got, e, []api.Span{})
	}
}

// Where layer 6 refuses one place, whichever it is, all is refused.
func TestSpansWithoutRoom(t *testing.T) {
	top, long := span.Point(number(big.NewInt(1), dyad.MaxExp)), span.Point(number(ones(maxBits), 0))
	for at := range 3 {
		a := []api.Span{of(1, 2, 0), of(-1, 3, 0), of(5, 5, 0)}
		b := []api.Span{of(2, 3, 0), of(-1, 3, 0), of(7, 8, 0)}
		what := fmt.Sprint(" at ", at)
		a[at] = top
		got, e := vec.Plus(a, b, 20)
		refuse(t, "Plus"+what, got, e, api.ErrLimbs)
		got, e = vec.Times(a, of(2, 2, 0), 20)
		refuse(t, "Times"+what, got, e, api.ErrRange)
		b[at] = of(2, 2, 0)
		one, e := vec.Inner(a, b, 20)
		refuse(t, "Inner, a product"+what, one, e, api.ErrRange)
		b[at] = of(1, 1, 0)
		one, e = vec.Inner(a, b, 20)
		refuse(t, "Inner, a sum"+what, one, e, api.ErrLimbs)
		b[at] = top
		got, e = vec.Plus(a, a, 20)
		refuse(t, "Plus beyond"+what, got, e, api.ErrRange)
		a[at] = long
		got, e = vec.Times(a, of(3, 3, 0), 20)
		refuse(t, "Times with more digits"+what, got, e, api.ErrLimbs)
	}
	least := list(1, 1, 1)
	least[2] = ratOf(frac(big.NewInt(1), ones(maxBits)))
	got, e := vec.Near(least, 64)
	refuse(t, "Near", got, e, api.ErrLimbs)
}

// The first place isn't added to 0, which has no room beside a great number.
func TestInnerOfOneGreatPlace(t *testing.T) {
	top := span.Point(number(big.NewInt(1), dyad.MaxExp))
	got, e := vec.Inner([]api.Span{top}, []api.Span{of(1, 1, 0)}, 20)
	expect(t, "Inner", got, e, top)
}

func TestHolds(t *testing.T) {
	a := []api.Span{of(1, 2, 0), of(-3, 5, -1), of(0, 0, 0)}
	for _, x := range []struct {
		list []api.Rat
		want bool
	}{
		{list(1, 0, 0), true},
		{list(2, 2, 0), true},
		{[]api.Rat{ratio.Of(3, 2), ratio.Of(5, 2), ratio.Zero()}, true},
		{[]api.Rat{ratio.Of(3, 2), ratio.Of(-3, 2), ratio.Zero()}, true},
		{[]api.Rat{ratio.Of(3, 2), ratio.Of(5, 2), ratio.Of(1, 1<<60)}, false},
		{[]api.Rat{ratio.Of(3, 2), ratio.Of(5001, 2000), ratio.Zero()}, false},
		{[]api.Rat{ratio.Of(999, 1000), ratio.Of(5, 2), ratio.Zero()}, false},
		{[]api.Rat{ratio.Of(2001, 1000), ratio.Of(5, 2), ratio.Zero()}, false},
		{[]api.Rat{ratio.Of(3, 2), ratio.Of(-1501, 1000), ratio.Zero()}, false},
		{list(3, 3, 3), false},
	} {
		got, e := vec.Holds(a, x.list)
		expect(t, "Holds "+told(x.list), got, e, x.want)
	}
	got, e := vec.Holds(nil, nil)
	expect(t, "Holds none", got, e, true)
}

// Where layer 6 can't tell at one place, that is told, whatever the others say.
func TestHoldsWithoutRoom(t *testing.T) {
	far := api.Span{Hi: number(big.NewInt(1), maxBits)}
	for at := range 3 {
		for _, n := range []int64{1, 7} {
			a := []api.Span{of(0, 3, 0), of(0, 3, 0), of(0, 3, 0)}
			a[at] = far
			got, e := vec.Holds(a, list(n, n, n))
			refuse(t, fmt.Sprint("Holds ", n, " without room at ", at), got, e, api.ErrLimbs)
		}
	}
}

func TestNorm(t *testing.T) {
	for _, x := range []struct {
		a    []api.Span
		want api.Dyad
	}{
		{nil, api.Dyad{}},
		{[]api.Span{{}, {}}, api.Dyad{}},
		{[]api.Span{of(1, 2, 0)}, dyad.Of(2, 0)},
		{[]api.Span{of(-5, 2, 0)}, dyad.Of(5, 0)},
		{[]api.Span{of(-5, 2, 0), of(3, 6, 0), of(1, 1, 0)}, dyad.Of(6, 0)},
		{[]api.Span{of(-5, 2, 0), of(3, 4, 0), of(1, 1, 0)}, dyad.Of(5, 0)},
		{[]api.Span{of(1, 1, 0), of(3, 4, 0), of(-9, -8, -1)}, dyad.Of(9, -1)},
		{[]api.Span{of(1, 1, 0), span.Even(number(big.NewInt(1), dyad.MaxExp)), of(3, 4, 0)}, number(big.NewInt(1), dyad.MaxExp)},
	} {
		expect(t, "Norm of "+toldSpans(x.a), vec.Norm(x.a), api.OK, x.want)
	}
}
