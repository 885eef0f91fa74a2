package zono_test

import (
	"fmt"
	"math/big"
	"testing"

	"girdle/api"
	"girdle/dyad"
	"girdle/ratio"
	"girdle/span"
	"girdle/zono"
)

// The set goes as far as the middle times the span's middle, and, this way and the
// other, as the middle times what that is off, and as the rest times the span's size:
// of all sets about that middle that hold what is asked, none goes less far.
func TestTimes(t *testing.T) {
	d := dice(12)
	for i := range 60 {
		z, by := d.zono(i%5, i/5%4, 40), d.span(40)
		s := exact(z)
		m, w := about(by)
		for _, bits := range widths() {
			what := fmt.Sprint("Times of ", z, " by ", span.Text(by), " to ", bits, " bits")
			got, e := zono.Times(z, by, bits)
			// Nothing is off by more than so many bits can tell: that is two of the
			// last of them where they can't tell the span's numbers apart.
			goes(t, what, got, e, bits-1, func(dir []*big.Rat) *big.Rat {
				along := dot(dir, s.center)
				return plus(plus(times(m, along), times(w, size(along))), times(value(span.Size(by)), s.aside(dir)))
			})
			held := exact(got)
			for _, dir := range directions(len(z.Center)) {
				for range 3 {
					x := d.within(by)
					if far := plus(times(x, dot(dir, s.center)), times(size(x), s.aside(dir))); held.far(dir).Cmp(far) < 0 {
						t.Errorf("%.200s: only as far as %s, not %s", what, held.far(dir), far)
					}
				}
			}
		}
	}
}

func TestTimesByHand(t *testing.T) {
	z := zono.Zono{Center: numbers(1, 0), Gens: [][]api.Dyad{numbers(2, 1), numbers(0, 1)}, Round: numbers(1, 2)}
	for _, x := range []struct {
		by   api.Span
		want zono.Zono
	}{
		{of(3, 3, 0), zono.Zono{Center: numbers(3, 0), Gens: [][]api.Dyad{numbers(6, 3), numbers(0, 3)}, Round: numbers(3, 6)}},
		{of(-3, -3, 0), zono.Zono{Center: numbers(-3, 0), Gens: [][]api.Dyad{numbers(-6, -3), numbers(0, -3)}, Round: numbers(3, 6)}},
		{of(0, 0, 0), zono.Zono{Center: numbers(0, 0), Gens: [][]api.Dyad{numbers(0, 0), numbers(0, 0)}, Round: numbers(0, 0)}},
		{of(-1, 1, 0), zono.Zono{Center: numbers(0, 0), Gens: [][]api.Dyad{numbers(2, 1), numbers(0, 1)}, Round: numbers(2, 2)}},
		{of(1, 3, 0), zono.Zono{Center: numbers(2, 0), Gens: [][]api.Dyad{numbers(6, 3), numbers(0, 3)}, Round: numbers(4, 6)}},
		{of(-3, -1, 0), zono.Zono{Center: numbers(-2, 0), Gens: [][]api.Dyad{numbers(-6, -3), numbers(0, -3)}, Round: numbers(4, 6)}},
	} {
		got, e := zono.Times(z, x.by, 40)
		expect(t, "Times by "+span.Text(x.by), got, e, x.want)
	}
	got, e := zono.Times(zono.Zono{}, of(1, 3, 0), 40)
	expect(t, "Times of none", got, e, zono.Zono{})
}

// What a point comes to, times the numbers of a span, is the way between.
func TestTimesOfAPoint(t *testing.T) {
	z := zono.Zono{Center: numbers(1, -3), Round: numbers(0, 0)}
	got, e := zono.Times(z, of(-1, 1, 0), 40)
	expect(t, "Times by all from -1 to 1", got, e, zono.Zono{Center: numbers(0, 0), Gens: [][]api.Dyad{numbers(1, -3)}, Round: numbers(0, 0)})
	got, e = zono.Times(z, of(0, 4, 0), 40)
	expect(t, "Times by all from 0 to 4", got, e, zono.Zono{Center: numbers(2, -6), Gens: [][]api.Dyad{numbers(2, -6)}, Round: numbers(0, 0)})
	far, e := zono.Support(got, spans(3, 1), 40)
	expect(t, "Support aside", far, e, api.Dyad{})
}

// A span whose numbers so many bits can't tell apart makes no way more.
func TestTimesBySharpSpans(t *testing.T) {
	z := zono.Zono{Center: numbers(5, -3, 7), Gens: [][]api.Dyad{numbers(2, 1, 1)}, Round: numbers(0, 1, 0)}
	for _, bits := range widths() {
		for _, r := range []api.Rat{ratio.Of(1, 3), ratio.Of(-1, 7), ratio.Of(1000, 3), ratio.Of(3, 1), ratio.Zero()} {
			by, _ := span.Near(r, bits)
			got, e := zono.Times(z, by, bits)
			if e != api.OK || len(got.Gens) != len(z.Gens) {
				t.Errorf("Times by %s to %d bits: %d ways, error %d", span.Text(by), bits, len(got.Gens), e)
			}
			if bits < dyad.MaxBits {
				continue
			}
			got, e = zono.Times(z, by, 64)
			if e != api.OK || len(got.Gens) != len(z.Gens) {
				t.Errorf("Times by %s to 64 bits: %d ways, error %d", span.Text(by), len(got.Gens), e)
			}
		}
	}
}

// There is no way more where there are as many as can be.
func TestTimesOfMostWays(t *testing.T) {
	for _, x := range []struct{ ways, want int }{{zono.MaxGens - 1, zono.MaxGens}, {zono.MaxGens, zono.MaxGens}} {
		z := some(2, x.ways)
		z.Center = numbers(1, 3)
		got, e := zono.Times(z, of(1, 3, 0), 40)
		if e != api.OK || len(got.Gens) != x.want || zono.Check(got, 2) != api.OK {
			t.Errorf("Times of %d ways: %d, error %d", x.ways, len(got.Gens), e)
		}
		b, e := zono.Box(got, 40)
		expect(t, "Box of Times", []api.Span(b), e, []api.Span{of(1, 3, 0), of(3, 9, 0)})
	}
}

func TestTimesRefuses(t *testing.T) {
	for what, z := range misshapen() {
		got, e := zono.Times(z, of(1, 2, 0), 1)
		refuse(t, "Times of "+what, got, e, api.ErrShape)
	}
	got, e := zono.Times(zono.Zono{Center: make([]api.Dyad, 17), Round: make([]api.Dyad, 17)}, of(1, 2, 0), 20)
	refuse(t, "Times of 17 places", got, e, api.ErrShape)
	for _, bits := range wrongWidths() {
		for _, z := range []zono.Zono{some(1, 0), {Center: numbers(1, 2), Round: numbers(0, 0)}} {
			got, e := zono.Times(z, of(1, 2, 0), bits)
			refuse(t, fmt.Sprint("Times to ", bits, " bits"), got, e, api.ErrRange)
		}
	}
	for at := range 6 {
		z := zono.Zono{Center: numbers(1, 1), Gens: [][]api.Dyad{numbers(1, 1)}, Round: numbers(1, 1)}
		[][]api.Dyad{z.Center, z.Gens[0], z.Round}[at/2][at%2] = top()
		got, e := zono.Times(z, of(2, 2, 0), 20)
		refuse(t, "Times beyond", got, e, api.ErrRange)
	}
	got, e = zono.Times(some(1, 0), api.Span{Lo: dyad.Of(-1, 0), Hi: top()}, 20)
	refuse(t, "Times by a span without a middle", got, e, api.ErrLimbs)
	got, e = zono.Times(some(1, 0), span.Point(top()), 20)
	expect(t, "Times of nothing by the greatest number", got, e, some(1, 0))
}

// How often a set is multiplied by 1 adds nothing to it.
func TestTimesOneAgain(t *testing.T) {
	z, e := zono.Times(zono.Zono{Center: numbers(1, 7), Gens: [][]api.Dyad{numbers(5, 9)}, Round: numbers(0, 0)}, span.Point(number(big.NewInt(1<<40+3), -20)), 20)
	if e != api.OK {
		t.Fatal(e)
	}
	again, e := zono.Times(z, of(1, 1, 0), 20)
	expect(t, "Times 1", again, e, z)
	again, e = zono.Image([][]api.Span{spans(1, 0), spans(0, 1)}, z, 20)
	expect(t, "Image by 1", again, e, z)
}
