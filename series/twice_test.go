package series_test

import (
	"fmt"
	"math"
	"testing"

	"girdle/api"
	"girdle/dyad"
	"girdle/mat"
	"girdle/ratio"
	"girdle/series"
	"girdle/span"
)

// Of what is held in the one time, what is held in twice the time.
func TestTwiceIsTrue(t *testing.T) {
	d := dice(4242)
	for i := range 12 {
		a, time := d.rats(1+i%3, 2), ratio.Of(int64(1+d.next(9)), 10)
		p := made(t, a, time, 200)
		for range 3 {
			var e api.Errno
			p, e = series.Twice(p, 200)
			time, _ = ratio.Mul(time, ratio.Of(2, 1))
			if e != api.OK {
				t.Fatalf("Twice: error %d", e)
			}
			isTrue(t, p, a, time, 160)
		}
	}
}

func TestTwiceByHand(t *testing.T) {
	p := series.Growth{Exp: points([]int64{1, 3}, []int64{0, 2}), Sum: [][]api.Span{{of(1, 2, 0), of(0, 0, 0)}, {of(5, 5, 0), of(-1, 1, 0)}}}
	got, e := series.Twice(p, 20)
	if e != api.OK || !same(got.Exp, points([]int64{1, 9}, []int64{0, 4})) {
		t.Errorf("the exponential: error %d, %s", e, toldSpans(got.Exp))
	}
	if want := [][]api.Span{{of(17, 19, 0), of(-3, 3, 0)}, {of(15, 15, 0), of(-3, 3, 0)}}; !same(got.Sum, want) {
		t.Errorf("the integral: %s", toldSpans(got.Sum))
	}
	got, e = series.Twice(series.Growth{Exp: points([]int64{5}), Sum: points([]int64{1})}, 2)
	if e != api.OK || !same(got.Exp, [][]api.Span{{of(24, 32, 0)}}) || !same(got.Sum, [][]api.Span{{of(4, 8, 0)}}) {
		t.Errorf("rounded: error %d, %s, %s", e, toldSpans(got.Exp), toldSpans(got.Sum))
	}
	if got, e = series.Twice(series.Growth{}, 20); e != api.OK || len(got.Exp) != 0 || len(got.Sum) != 0 {
		t.Errorf("of no places: error %d", e)
	}
}

// As layer 8 reckons.
func TestTwiceOfMany(t *testing.T) {
	d := dice(77)
	for i := range 40 {
		p := series.Growth{Exp: d.spans(1 + i%4), Sum: d.spans(1 + i%4)}
		for _, bits := range []int{2, 5, 30, dyad.MaxBits} {
			exp, _ := mat.Times(p.Exp, p.Exp, bits)
			more, _ := mat.Times(p.Exp, p.Sum, bits)
			sum, _ := mat.Plus(p.Sum, more, bits)
			got, e := series.Twice(p, bits)
			if e != api.OK || !same(got, series.Growth{Exp: exp, Sum: sum}) {
				t.Errorf("Twice of %s, %s to %d bits: error %d", toldSpans(p.Exp), toldSpans(p.Sum), bits, e)
			}
		}
	}
}

func TestTwiceRefuses(t *testing.T) {
	one, top := points([]int64{1, 0}, []int64{0, 1}), span.Point(api.Dyad{Man: api.Int{Size: api.Nat{1}}, Exp: dyad.MaxExp})
	for _, bits := range []int{math.MinInt, 0, 1, dyad.MaxBits + 1, math.MaxInt} {
		p, e := series.Twice(series.Growth{Exp: one, Sum: one}, bits)
		refuse(t, fmt.Sprint(bits, " bits"), p, e, api.ErrRange)
	}
	for _, x := range []struct {
		name     string
		exp, sum [][]api.Span
		want     api.Errno
	}{
		{"no square", one[:1], one[:1], api.ErrShape},
		{"fewer rows of the integral", one, one[:1], api.ErrShape},
		{"no rows of the integral", one, nil, api.ErrShape},
		{"no rows of the exponential", nil, one, api.ErrShape},
		{"a short row", [][]api.Span{one[0], one[1][:1]}, one, api.ErrShape},
		{"a short row of the integral", one, [][]api.Span{one[0], one[1][:1]}, api.ErrShape},
		{"no room in the exponential", [][]api.Span{{top}}, points([]int64{1}), api.ErrRange},
		{"no room in the integral", points([]int64{2}), [][]api.Span{{top}}, api.ErrRange},
		{"no room together", points([]int64{1}), [][]api.Span{{top}}, api.ErrRange},
	} {
		p, e := series.Twice(series.Growth{Exp: x.exp, Sum: x.sum}, 20)
		refuse(t, x.name, p, e, x.want)
	}
}

func TestScaled(t *testing.T) {
	d := dice(5)
	for i := range 40 {
		a, by := d.spans(i%5), d.spans(1)[0][0]
		for _, bits := range []int{2, 7, 100, dyad.MaxBits} {
			got, e := series.Scaled(a, by, bits)
			want := make([][]api.Span, len(a))
			for i, row := range a {
				for _, x := range row {
					y, _ := span.Mul(x, by, bits)
					want[i] = append(want[i], y)
				}
			}
			if e != api.OK || !same(got, want) {
				t.Errorf("Scaled of %s by %s to %d bits: error %d, %s", toldSpans(a), span.Text(by), bits, e, toldSpans(got))
			}
		}
	}
	// Rows may be of unlike lengths.
	got, e := series.Scaled([][]api.Span{{of(5, 5, 0)}, {}, {of(-1, 2, 0), of(1, 3, 0)}}, of(-1, 3, 0), 2)
	if want := [][]api.Span{{of(-6, 16, 0)}, {}, {of(-3, 6, 0), of(-3, 12, 0)}}; e != api.OK || !same(got, want) {
		t.Errorf("Scaled by hand: error %d, %s", e, toldSpans(got))
	}
}

func TestScaledRefuses(t *testing.T) {
	top := span.Point(api.Dyad{Man: api.Int{Size: api.Nat{1}}, Exp: dyad.MaxExp})
	full := span.Point(api.Dyad{Man: api.Int{Size: sizeOf(ones(maxBits))}})
	for _, x := range []struct {
		name string
		by   api.Span
		bits int
		want api.Errno
	}{
		{"a bit", of(1, 1, 0), 1, api.ErrRange},
		{"too many bits", of(1, 1, 0), dyad.MaxBits + 1, api.ErrRange},
		{"too great a power", top, 20, api.ErrRange},
		{"too many digits", full, 20, api.ErrLimbs},
	} {
		got, e := series.Scaled([][]api.Span{{of(1, 1, 0)}, {of(3, 3, 1)}}, x.by, x.bits)
		if e != x.want || len(got) != 0 {
			t.Errorf("%s: error %d, %d rows", x.name, e, len(got))
		}
	}
	if got, e := series.Scaled(nil, of(1, 1, 0), 20); e != api.OK || len(got) != 0 {
		t.Errorf("none: error %d", e)
	}
}
