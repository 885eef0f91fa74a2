package mat_test

import (
	"fmt"
	"math"
	"math/big"
	"testing"

	"girdle/api"
	"girdle/dyad"
	"girdle/mat"
	"girdle/ratio"
	"girdle/span"
)

func TestNear(t *testing.T) {
	d := dice(14)
	for i := range 30 {
		a := d.rats(i%4, i%5, 50)
		for _, bits := range widths() {
			want := make([][]api.Span, len(a))
			for i, row := range a {
				for _, r := range row {
					want[i] = append(want[i], outwards(pair{r, r}, bits))
				}
			}
			got, e := mat.Near(ratTable(a), bits)
			expect(t, fmt.Sprint("Near of ", told(ratTable(a)), " to ", bits, " bits"), got, e, want)
		}
	}
	got, e := mat.Near([][]api.Rat{{ratio.Of(1, 3)}, {}, {ratio.Of(-1, 3), ratio.Zero()}}, 4)
	expect(t, "Near of rows of unlike lengths", got, e, [][]api.Span{{of(10, 11, -5)}, {}, {of(-11, -10, -5), {}}})
}

// inner: what a row and a column come to, each product and each sum rounded.
func inner(a, b []api.Span, bits int) api.Span {
	var sum api.Span
	for i := range a {
		one := outwards(product(ends(a[i]), ends(b[i])), bits)
		sum = outwards(together(ends(sum), ends(one)), bits)
	}
	return sum
}

func TestTimesAndOn(t *testing.T) {
	d := dice(808)
	for i := range 60 {
		rows, between, cols := i%5, 1+i/5%4, i/20%5
		a, b := d.spans(rows, between, 40), d.spans(between, cols, 40)
		x := d.spans(1, between, 40)[0]
		for _, bits := range widths() {
			want := make([][]api.Span, rows)
			var list []api.Span
			for i, row := range a {
				for j := range cols {
					var column []api.Span
					for _, other := range b {
						column = append(column, other[j])
					}
					want[i] = append(want[i], inner(row, column, bits))
				}
				list = append(list, inner(row, x, bits))
			}
			what := fmt.Sprint(" of ", toldSpans(a), " and ", toldSpans(b), " to ", bits, " bits")
			got, e := mat.Times(a, b, bits)
			expect(t, "Times"+what, got, e, want)
			on, e := mat.On(a, x, bits)
			expect(t, "On"+what, on, e, list)
		}
	}
}

func TestSpansByHand(t *testing.T) {
	a := [][]api.Span{{of(1, 2, 0), of(-1, 3, 0)}, {of(0, 0, 0), of(1, 1, 0)}}
	b := [][]api.Span{{of(0, 1, 0), of(2, 2, 0)}, {of(-2, 1, 0), of(0, 0, 0)}}
	got, e := mat.Times(a, b, 20)
	expect(t, "Times", got, e, [][]api.Span{{of(-6, 5, 0), of(2, 4, 0)}, {of(-2, 1, 0), of(0, 0, 0)}})
	x, e := mat.On(a, []api.Span{of(1, 1, 0), of(-1, 2, 0)}, 20)
	expect(t, "On", x, e, []api.Span{of(-2, 8, 0), of(-1, 2, 0)})
	got, e = mat.Plus(a, b, 20)
	expect(t, "Plus", got, e, [][]api.Span{{of(1, 3, 0), of(1, 5, 0)}, {of(-2, 1, 0), of(1, 1, 0)}})
	got, e = mat.Times([][]api.Span{{of(5, 5, 0), of(1, 1, 0)}}, [][]api.Span{{of(1, 1, 0)}, {of(1, 1, 0)}}, 2)
	expect(t, "Times, rounded", got, e, [][]api.Span{{of(4, 8, 0)}})
	got, e = mat.Plus([][]api.Span{{of(5, 5, 0)}, {}}, [][]api.Span{{of(2, 2, 0)}, {}}, 2)
	expect(t, "Plus, rounded", got, e, [][]api.Span{{of(6, 8, 0)}, {}})
	x, e = mat.On([][]api.Span{{}, {}}, nil, 20)
	expect(t, "On of no columns", x, e, []api.Span{{}, {}})
}

func TestPlus(t *testing.T) {
	d := dice(555)
	for i := range 30 {
		a, b := d.spans(i%4, i%5, 60), d.spans(i%4, i%5, 60)
		for _, bits := range widths() {
			want := make([][]api.Span, len(a))
			for i, row := range a {
				for j := range row {
					want[i] = append(want[i], outwards(together(ends(row[j]), ends(b[i][j])), bits))
				}
			}
			got, e := mat.Plus(a, b, bits)
			expect(t, fmt.Sprint("Plus of ", toldSpans(a), " and ", toldSpans(b)), got, e, want)
		}
	}
}

func TestEven(t *testing.T) {
	for n, many := range counts() {
		for _, size := range []api.Dyad{{}, dyad.Of(3, -1), dyad.Of(-3, -1), number(big.NewInt(-1), dyad.MaxExp)} {
			want := make([][]api.Span, many)
			for i := range want {
				for range many {
					want[i] = append(want[i], span.Even(size))
				}
			}
			expect(t, fmt.Sprint("Even of ", n), mat.Even(n, size), api.OK, want)
		}
	}
	expect(t, "Even of 2", mat.Even(2, dyad.Of(-5, 0)), api.OK, [][]api.Span{{of(-5, 5, 0), of(-5, 5, 0)}, {of(-5, 5, 0), of(-5, 5, 0)}})
}

func TestWrongWidths(t *testing.T) {
	for _, bits := range []int{math.MinInt, -1, 0, 1, dyad.MaxBits + 1, math.MaxInt} {
		a := [][]api.Span{{of(1, 2, 0), of(0, 0, 0)}, {of(0, 0, 0), of(3, 4, 0)}}
		what := fmt.Sprint(" to ", bits, " bits")
		got, e := mat.Near(blank(2, 2), bits)
		refuse(t, "Near"+what, got, e, api.ErrRange)
		got, e = mat.Times(a, a, bits)
		refuse(t, "Times"+what, got, e, api.ErrRange)
		got, e = mat.Plus(a, a, bits)
		refuse(t, "Plus"+what, got, e, api.ErrRange)
		on, e := mat.On(a, a[0], bits)
		refuse(t, "On"+what, on, e, api.ErrRange)
		size, e := mat.Size(a, bits)
		refuse(t, "Size"+what, size, e, api.ErrRange)
		// ErrShape is named ahead of that.
		got, e = mat.Times(a, a[:1], bits)
		refuse(t, "Times of tables that don't fit"+what, got, e, api.ErrShape)
		got, e = mat.Plus(a, a[:1], bits)
		refuse(t, "Plus of tables that don't fit"+what, got, e, api.ErrShape)
		on, e = mat.On(a, a[0][:1], bits)
		refuse(t, "On of what doesn't fit"+what, on, e, api.ErrShape)
	}
}

// Where one row has no room, whichever it is, all is refused; but ErrShape is named ahead of that.
func TestSpansWithoutRoom(t *testing.T) {
	top := span.Point(number(big.NewInt(1), dyad.MaxExp))
	for at := range 3 {
		a, b := spansOf(blank(3, 2)), spansOf(blank(3, 2))
		a[at][1] = top
		what := fmt.Sprint(" at ", at)
		got, e := mat.Plus(a, b, 20)
		refuse(t, "Plus"+what, got, e, api.ErrLimbs)
		got, e = mat.Times(a, b[:2], 20)
		refuse(t, "Times"+what, got, e, api.ErrLimbs)
		on, e := mat.On(a, []api.Span{of(2, 2, 0), of(2, 2, 0)}, 20)
		refuse(t, "On"+what, on, e, api.ErrRange)
		size, e := mat.Size(a, 20)
		refuse(t, "Size"+what, size, e, api.ErrLimbs)
		a[at] = []api.Span{top, top}
		size, e = mat.Size(a, 20)
		refuse(t, "Size beyond"+what, size, e, api.ErrRange)
		b[2] = b[2][1:]
		got, e = mat.Plus(a, b, 20)
		refuse(t, "Plus of unlike ones"+what, got, e, api.ErrShape)
		got, e = mat.Times([][]api.Span{{top, top, top}}, b, 20)
		refuse(t, "Times by unlike rows"+what, got, e, api.ErrShape)
		a[2] = a[2][1:]
		a[0] = []api.Span{top, top}
		got, e = mat.Times(a, [][]api.Span{{top}, {top}}, 20)
		refuse(t, "Times of unlike rows"+what, got, e, api.ErrShape)
		on, e = mat.On(a, []api.Span{top, top}, 20)
		refuse(t, "On of unlike rows"+what, on, e, api.ErrShape)
	}
	least := ratOf(frac(big.NewInt(1), ones(maxBits)))
	got, e := mat.Near([][]api.Rat{list(1), {least}}, 64)
	refuse(t, "Near", got, e, api.ErrLimbs)
}

func TestHolds(t *testing.T) {
	a := [][]api.Span{{of(1, 2, 0), of(-3, 5, -1)}, {of(0, 0, 0), of(7, 9, 0)}}
	for _, x := range []struct {
		table [][]api.Rat
		want  bool
	}{
		{[][]api.Rat{list(1, 0), list(0, 7)}, true},
		{[][]api.Rat{{ratio.Of(3, 2), ratio.Of(5, 2)}, {ratio.Zero(), ratio.Of(25, 3)}}, true},
		{[][]api.Rat{{ratio.Of(3, 2), ratio.Of(51, 20)}, {ratio.Zero(), ratio.Of(25, 3)}}, false},
		{[][]api.Rat{list(1, 0), list(0, 6)}, false},
		{[][]api.Rat{list(1, 0), list(1, 7)}, false},
		{[][]api.Rat{list(3, 0), list(0, 7)}, false},
		{[][]api.Rat{list(3, 3), list(3, 3)}, false},
	} {
		got, e := mat.Holds(a, x.table)
		expect(t, "Holds "+told(x.table), got, e, x.want)
	}
	got, e := mat.Holds(nil, nil)
	expect(t, "Holds none", got, e, true)
	got, e = mat.Holds([][]api.Span{{of(1, 2, 0)}, {}, {of(3, 4, 0), of(5, 6, 0)}}, [][]api.Rat{list(1), {}, list(4, 5)})
	expect(t, "Holds rows of unlike lengths", got, e, true)
}

// Where one row can't be told, that is told, whatever the others say; but ErrShape is named ahead of that.
func TestHoldsWithoutRoom(t *testing.T) {
	far := api.Span{Hi: number(big.NewInt(1), maxBits)}
	for at := range 3 {
		for _, n := range []int64{1, 7} {
			a := [][]api.Span{{of(0, 3, 0)}, {of(0, 3, 0)}, {of(0, 3, 0)}}
			a[at][0] = far
			what := fmt.Sprint("Holds ", n, " without room at ", at)
			got, e := mat.Holds(a, [][]api.Rat{list(n), list(n), list(n)})
			refuse(t, what, got, e, api.ErrLimbs)
			got, e = mat.Holds(a, [][]api.Rat{list(n), list(n), list(n, n)})
			refuse(t, what+", of unlike ones", got, e, api.ErrShape)
		}
	}
}

// What spans hold has no greater norm than their Size.
func TestSize(t *testing.T) {
	d := dice(404)
	for i := range 60 {
		a := d.spans(i%5, i%7, 60)
		for _, bits := range widths() {
			var want api.Dyad
			for _, row := range a {
				var sum api.Dyad
				for _, x := range row {
					both := plus(value(sum), value(span.Size(x)))
					sum, _ = dyad.Near(ratOf(both), bits, true)
				}
				want = dyad.Max(want, sum)
			}
			got, e := mat.Size(a, bits)
			expect(t, fmt.Sprint("Size of ", toldSpans(a), " to ", bits, " bits"), got, e, want)
			if norm := normOf(a); value(got).Cmp(norm) < 0 {
				t.Errorf("Size of %s to %d bits: %s, less than %s", toldSpans(a), bits, value(got), norm)
			}
		}
	}
}

// normOf: the greatest norm of what a table of spans holds.
func normOf(a [][]api.Span) *big.Rat {
	norm := new(big.Rat)
	for _, row := range a {
		sum := new(big.Rat)
		for _, x := range row {
			size := ends(x)
			size.lo.Abs(size.lo)
			size.hi.Abs(size.hi)
			if size.lo.Cmp(size.hi) > 0 {
				size.hi = size.lo
			}
			sum = plus(sum, size.hi)
		}
		if sum.Cmp(norm) > 0 {
			norm = sum
		}
	}
	return norm
}

func TestSizeByHand(t *testing.T) {
	for _, x := range []struct {
		a    [][]api.Span
		bits int
		want api.Dyad
	}{
		{nil, 20, api.Dyad{}},
		{[][]api.Span{{}, {}}, 20, api.Dyad{}},
		{[][]api.Span{{of(-5, 2, 0), of(1, 3, 0)}, {of(0, 1, 0), of(6, 6, 0)}}, 20, dyad.Of(8, 0)},
		{[][]api.Span{{of(0, 1, 0), of(6, 6, 0)}, {of(-5, 2, 0), of(1, 3, 0)}}, 20, dyad.Of(8, 0)},
		{[][]api.Span{{of(1, 1, 0)}, {of(1, 1, 0), of(1, 2, 0)}, {}}, 20, dyad.Of(3, 0)},
		// Each sum is rounded upwards, a lone number too.
		{[][]api.Span{{of(5, 5, 0)}}, 2, dyad.Of(6, 0)},
		{[][]api.Span{{of(-5, -5, 0)}}, 2, dyad.Of(6, 0)},
		{[][]api.Span{{of(5, 5, 0), of(1, 1, 0)}}, 2, dyad.Of(8, 0)},
		{[][]api.Span{{of(1, 1, 0), of(5, 5, 0)}}, 2, dyad.Of(6, 0)},
		{[][]api.Span{{of(5, 5, 0), of(1, 1, 0), of(1, 1, 0)}}, 2, dyad.Of(12, 0)},
		// The first one isn't added to 0, which has no room beside a great number.
		{[][]api.Span{{span.Even(number(big.NewInt(1), dyad.MaxExp))}}, 2, number(big.NewInt(1), dyad.MaxExp)},
	} {
		got, e := mat.Size(x.a, x.bits)
		expect(t, fmt.Sprint("Size of ", x.a, " to ", x.bits, " bits"), got, e, x.want)
	}
}
