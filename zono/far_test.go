package zono_test

import (
	"fmt"
	"math/big"
	"testing"

	"girdle/api"
	"girdle/box"
	"girdle/dyad"
	"girdle/span"
	"girdle/zono"
)

// In a direction that is known, no more is told than must be with so many bits.
func TestSupport(t *testing.T) {
	d := dice(100)
	for i := range 60 {
		z := d.zono(i%5, i/5%5, 60)
		for _, dir := range directions(i % 5) {
			var points []api.Span
			for _, x := range dir {
				points = append(points, span.Point(near(x, 64, false)))
			}
			for _, bits := range []int{2, 40, 64, dyad.MaxBits} {
				got, e := zono.Support(z, points, bits)
				expect(t, fmt.Sprint("Support of ", z, " in ", dir, " to ", bits, " bits"), got, e, near(exact(z).far(dir), bits, true))
			}
		}
	}
}

// In one that isn't, no direction within goes further; and no more is told than how
// far the middle one goes, and, place by place, the greatest number times how far it
// is off.
func TestSupportOfWideDirections(t *testing.T) {
	d := dice(200)
	for i := range 100 {
		n := i % 5
		z, dir := d.zono(n, i/5%5, 60), d.row(n, 30)
		s := exact(z)
		middles, off := zeros(n), new(big.Rat)
		for j, x := range dir {
			m, w := about(x)
			middles[j], off = m, plus(off, times(w, s.reach(j)))
		}
		for _, bits := range widths() {
			what := fmt.Sprint("Support of ", z, " in ", dir, " to ", bits, " bits")
			got, e := zono.Support(z, dir, bits)
			expect(t, what, got, e, near(plus(s.far(middles), off), bits, true))
			for range 5 {
				x := zeros(n)
				for j := range dir {
					x[j] = d.within(dir[j])
				}
				if far := s.far(x); value(got).Cmp(far) < 0 {
					t.Errorf("%.200s: %s, less than %s", what, value(got), far)
				}
			}
		}
	}
}

func TestSupportByHand(t *testing.T) {
	z := zono.Zono{Center: numbers(1, 0), Gens: [][]api.Dyad{numbers(2, 1), numbers(0, -1)}, Round: numbers(0, 3)}
	for _, x := range []struct {
		dir  []api.Span
		want int64
	}{
		{spans(1, 0), 3}, {spans(-1, 0), 1}, {spans(0, 1), 5}, {spans(0, -1), 5}, {spans(1, -1), 6}, {spans(0, 0), 0},
		{[]api.Span{of(-1, 1, 0), of(0, 0, 0)}, 3},
		{[]api.Span{of(0, 2, 0), of(1, 1, 0)}, 1 + 3 + 1 + 3 + 3},
	} {
		got, e := zono.Support(z, x.dir, 40)
		expect(t, fmt.Sprint("Support in ", x.dir), got, e, dyad.Of(x.want, 0))
	}
	got, e := zono.Support(z, spans(0, 1), 2)
	expect(t, "Support, rounded", got, e, dyad.Of(6, 0))
	got, e = zono.Support(zono.Zono{}, nil, 40)
	expect(t, "Support of no places", got, e, api.Dyad{})
}

func TestBox(t *testing.T) {
	d := dice(300)
	for i := range 60 {
		z := d.zono(i%5, i/5%5, 60)
		s := exact(z)
		for _, bits := range widths() {
			want := box.Box{}
			for at := range z.Center {
				dir := zeros(len(z.Center))
				dir[at] = whole(1)
				lo, hi := minus(s.center[at], s.aside(dir)), plus(s.center[at], s.aside(dir))
				want = append(want, api.Span{Lo: near(lo, bits, false), Hi: near(hi, bits, true)})
			}
			got, e := zono.Box(z, bits)
			expect(t, fmt.Sprint("Box of ", z, " to ", bits, " bits"), got, e, want)
		}
	}
	z := zono.Zono{Center: numbers(1, 0), Gens: [][]api.Dyad{numbers(2, 1), numbers(0, -1)}, Round: numbers(0, 3)}
	got, e := zono.Box(z, 40)
	expect(t, "Box", got, e, box.Box{of(-1, 3, 0), of(-5, 5, 0)})
	got, e = zono.Box(z, 2)
	expect(t, "Box, rounded", got, e, box.Box{of(-1, 3, 0), of(-6, 6, 0)})
	got, e = zono.Box(zono.Zono{}, 2)
	expect(t, "Box of none", got, e, box.Box{})
	// A very great number alone has room.
	got, e = zono.Box(zono.Zono{Center: []api.Dyad{top()}, Round: numbers(0)}, 2)
	expect(t, "Box of the greatest number", got, e, box.Box{span.Point(top())})
}

func TestReach(t *testing.T) {
	d := dice(400)
	for i := range 60 {
		z := d.zono(i%5, i/5%5, 60)
		for _, bits := range widths() {
			furthest := new(big.Rat)
			for at := range z.Center {
				furthest = greater(furthest, exact(z).reach(at))
			}
			got, e := zono.Reach(z, bits)
			expect(t, fmt.Sprint("Reach of ", z, " to ", bits, " bits"), got, e, near(furthest, bits, true))
		}
	}
	for _, x := range []struct {
		z    zono.Zono
		want int64
	}{
		{zono.Zono{}, 0},
		{zono.Point(3), 0},
		{zono.Zono{Center: numbers(1, 0), Gens: [][]api.Dyad{numbers(2, 1), numbers(0, -1)}, Round: numbers(0, 3)}, 5},
		{zono.Zono{Center: numbers(-7, 0), Gens: [][]api.Dyad{numbers(2, 1), numbers(0, -1)}, Round: numbers(0, 3)}, 9},
		{zono.Zono{Center: numbers(0, 4), Gens: [][]api.Dyad{numbers(-2, 1), numbers(1, 0)}, Round: numbers(1, 0)}, 5},
	} {
		got, e := zono.Reach(x.z, 40)
		expect(t, fmt.Sprint("Reach of ", x.z), got, e, dyad.Of(x.want, 0))
	}
}

func TestFarRefuses(t *testing.T) {
	for what, z := range misshapen() {
		far, e := zono.Support(z, spans(1, 1), 1)
		refuse(t, "Support of "+what, far, e, api.ErrShape)
		b, e := zono.Box(z, 1)
		refuse(t, "Box of "+what, b, e, api.ErrShape)
		far, e = zono.Reach(z, 1)
		refuse(t, "Reach of "+what, far, e, api.ErrShape)
	}
	for _, n := range []int{0, 1, 3} {
		far, e := zono.Support(some(2, 1), make([]api.Span, n), 1)
		refuse(t, fmt.Sprint("Support in ", n, " places"), far, e, api.ErrShape)
	}
	for _, bits := range wrongWidths() {
		what := fmt.Sprint(" to ", bits, " bits")
		far, e := zono.Support(some(1, 0), spans(1), bits)
		refuse(t, "Support"+what, far, e, api.ErrRange)
		b, e := zono.Box(some(1, 0), bits)
		refuse(t, "Box"+what, b, e, api.ErrRange)
		far, e = zono.Reach(some(1, 0), bits)
		refuse(t, "Reach"+what, far, e, api.ErrRange)
	}
}

// Where layers 5 and 6 have no room, whichever place it is, all is refused.
func TestFarWithoutRoom(t *testing.T) {
	for at := range 6 {
		z := zono.Zono{Center: numbers(1, 1), Gens: [][]api.Dyad{numbers(1, 1)}, Round: numbers(1, 1)}
		list := [][]api.Dyad{z.Center, z.Gens[0], z.Round}[at/2]
		list[at%2] = top()
		far, e := zono.Support(z, spans(1, 1), 20)
		refuse(t, "Support without room", far, e, api.ErrLimbs)
		far, e = zono.Support(z, spans(2, 2), 20)
		refuse(t, "Support beyond", far, e, api.ErrRange)
		b, e := zono.Box(z, 20)
		refuse(t, "Box without room", b, e, api.ErrLimbs)
		far, e = zono.Reach(z, 20)
		refuse(t, "Reach without room", far, e, api.ErrLimbs)
		z.Center[at%2], z.Round[at%2] = top(), top()
		b, e = zono.Box(z, 20)
		refuse(t, "Box beyond", b, e, map[bool]api.Errno{true: api.ErrRange, false: api.ErrLimbs}[at/2 == 1])
	}
	wide := []api.Span{{Lo: number(big.NewInt(1), -dyad.MaxExp), Hi: dyad.Of(1, 0)}}
	far, e := zono.Support(some(1, 1), wide, 20)
	refuse(t, "Support in a direction without a middle", far, e, api.ErrLimbs)
}
