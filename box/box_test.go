package box_test

import (
	"fmt"
	"math"
	"math/big"
	"testing"

	"girdle/api"
	"girdle/box"
	"girdle/dyad"
	"girdle/ratio"
	"girdle/span"
	"girdle/vec"
)

func TestOf(t *testing.T) {
	got, e := box.Of([]api.Rat{ratio.Of(1, 3), ratio.Of(-1, 3), ratio.Zero(), ratio.Of(3, 8)}, 4)
	expect(t, "Of", got, e, box.Box{of(10, 11, -5), of(-11, -10, -5), {}, of(3, 3, -3)})
	got, e = box.Of(nil, 4)
	expect(t, "Of none", got, e, box.Box{})
	d := dice(77)
	for i := range 30 {
		var x []api.Rat
		var want box.Box
		for range i % 17 {
			r := big.NewRat(int64(d.next(1<<40)-1<<39), int64(1+d.next(1<<30)))
			x, want = append(x, ratOf(r)), append(want, outwards(r, r, 20))
		}
		got, e := box.Of(x, 20)
		expect(t, "Of", got, e, want)
	}
	for _, bits := range wrongWidths() {
		got, e := box.Of(list(1, 2), bits)
		refuse(t, fmt.Sprint("Of to ", bits, " bits"), got, e, api.ErrRange)
	}
	got, e = box.Of([]api.Rat{ratio.Zero(), ratOf(new(big.Rat).SetFrac(big.NewInt(1), ones(maxBits)))}, 64)
	refuse(t, "Of what has no room", got, e, api.ErrLimbs)
}

func TestCheck(t *testing.T) {
	for n := range vec.MaxDim + 3 {
		b := make(box.Box, n)
		for _, asked := range []int{math.MinInt, -1, 0, 1, n - 1, n, n + 1, vec.MaxDim, vec.MaxDim + 1, math.MaxInt} {
			want := api.ErrShape
			if asked == n && n <= vec.MaxDim {
				want = api.OK
			}
			if e := box.Check(b, asked); e != want {
				t.Errorf("Check of %d places, of %d: %d, not %d", n, asked, e, want)
			}
		}
	}
	if e := box.Check(nil, 0); e != api.OK {
		t.Errorf("Check of none: %d", e)
	}
}

func TestCheckOfWrongPlaces(t *testing.T) {
	long := api.Dyad{Man: api.Int{Size: sizeOf(ones(maxBits + 1))}}
	for _, x := range []struct {
		wrong api.Span
		want  api.Errno
	}{
		{of(2, 1, 0), api.ErrRange},
		{of(1, 1, 0), api.OK},
		{api.Span{Lo: dyad.Of(1, 0)}, api.ErrRange},
		{api.Span{Hi: api.Dyad{Exp: 1}}, api.ErrForm},
		{api.Span{Hi: api.Dyad{Man: api.Int{Size: api.Nat{2}}}}, api.ErrForm},
		{api.Span{Hi: number(big.NewInt(1), dyad.MaxExp+1)}, api.ErrRange},
		{api.Span{Hi: long}, api.ErrLimbs},
	} {
		for at := range 3 {
			b := box.Box{of(0, 1, 0), of(-1, 1, 0), of(1, 2, 0)}
			b[at] = x.wrong
			if e := box.Check(b, 3); e != x.want {
				t.Errorf("Check with %v at %d: %d, not %d", x.wrong, at, e, x.want)
			}
			if e := box.Check(b, 2); e != api.ErrShape {
				t.Errorf("Check of too many places: %d", e)
			}
		}
	}
	// Of several the first one is told.
	if e := box.Check(box.Box{of(2, 1, 0), {Hi: long}}, 2); e != api.ErrRange {
		t.Errorf("Check of two wrong places: %d", e)
	}
	if e := box.Check(box.Box{{Hi: long}, of(2, 1, 0)}, 2); e != api.ErrLimbs {
		t.Errorf("Check of two wrong places, the other way round: %d", e)
	}
}

func TestHull(t *testing.T) {
	a := box.Box{of(1, 1, 0), of(-3, 2, 0), of(0, 0, 0), of(1, 2, 0)}
	b := box.Box{of(-1, -1, 0), of(-2, 5, 0), of(0, 0, 0), of(3, 4, 0)}
	want := box.Box{of(-1, 1, 0), of(-3, 5, 0), of(0, 0, 0), of(1, 4, 0)}
	got, e := box.Hull(a, b)
	expect(t, "Hull", got, e, want)
	got, e = box.Hull(b, a)
	expect(t, "Hull, the other way round", got, e, want)
	got, e = box.Hull(nil, box.Box{})
	expect(t, "Hull of none", got, e, box.Box{})
	d := dice(9)
	for i := range 40 {
		a, b := d.box(i%17, 60), d.box(i%17, 60)
		var want box.Box
		for j := range a {
			want = append(want, span.Hull(a[j], b[j]))
		}
		got, e := box.Hull(a, b)
		expect(t, "Hull of "+told(a)+"and "+told(b), got, e, want)
		if !box.Holds(got, a) || !box.Holds(got, b) {
			t.Errorf("Hull of %sand %sdoesn't hold them", told(a), told(b))
		}
	}
}

func TestWider(t *testing.T) {
	got, e := box.Wider(box.Box{of(-1, 1, 0), of(2, 5, 0), of(3, 3, 0)}, []api.Dyad{dyad.Of(-1, 0), dyad.Of(2, 0), {}}, 20)
	expect(t, "Wider", got, e, box.Box{of(-2, 2, 0), of(0, 7, 0), of(3, 3, 0)})
	got, e = box.Wider(box.Box{of(-4, 4, 0)}, []api.Dyad{dyad.Of(1, 0)}, 2)
	expect(t, "Wider, rounded", got, e, box.Box{of(-6, 6, 0)})
	got, e = box.Wider(nil, nil, 20)
	expect(t, "Wider of none", got, e, box.Box{})
	d := dice(19)
	for i := range 40 {
		a, by := d.box(i%17, 60), d.numbers(i%17, 60)
		for _, bits := range widths() {
			var want box.Box
			for j, x := range a {
				size := new(big.Rat).Abs(value(by[j]))
				want = append(want, outwards(minus(value(x.Lo), size), plus(value(x.Hi), size), bits))
			}
			got, e := box.Wider(a, by, bits)
			expect(t, fmt.Sprint("Wider of ", told(a), "to ", bits, " bits"), got, e, want)
		}
	}
}

func TestWiderRefuses(t *testing.T) {
	for _, bits := range wrongWidths() {
		got, e := box.Wider(box.Box{of(1, 2, 0)}, []api.Dyad{dyad.Of(1, 0)}, bits)
		refuse(t, fmt.Sprint("Wider to ", bits, " bits"), got, e, api.ErrRange)
	}
	for at := range 3 {
		a, by := box.Box{of(1, 2, 0), of(1, 2, 0), of(1, 2, 0)}, []api.Dyad{{}, {}, {}}
		by[at] = top()
		got, e := box.Wider(a, by, 20)
		refuse(t, fmt.Sprint("Wider without room at ", at), got, e, api.ErrLimbs)
		a[at] = span.Point(top())
		got, e = box.Wider(a, by, 20)
		refuse(t, fmt.Sprint("Wider beyond at ", at), got, e, api.ErrRange)
	}
}

func TestHolds(t *testing.T) {
	a := box.Box{of(0, 3, 0), of(-1, 1, 0)}
	for _, x := range []struct {
		b    box.Box
		want bool
	}{
		{a, true},
		{box.Box{of(1, 2, 0), of(0, 0, 0)}, true},
		{box.Box{of(0, 0, 0), of(1, 1, 0)}, true},
		{box.Box{of(-1, 2, 0), of(0, 0, 0)}, false},
		{box.Box{of(1, 2, 0), of(0, 2, 0)}, false},
		{box.Box{of(1, 4, 0), of(0, 2, 0)}, false},
		{box.Box{of(1, 2, 0)}, false},
		{box.Box{of(1, 2, 0), of(0, 0, 0), of(0, 0, 0)}, false},
		{nil, false},
	} {
		if box.Holds(a, x.b) != x.want {
			t.Errorf("Holds %s: not %t", told(x.b), x.want)
		}
	}
	if !box.Holds(nil, box.Box{}) || box.Holds(nil, a) {
		t.Error("Holds of none")
	}
}

func TestHas(t *testing.T) {
	a := box.Box{of(0, 3, 0), of(-1, 1, -1)}
	for _, x := range []struct {
		list []api.Rat
		want bool
	}{
		{list(0, 0), true},
		{[]api.Rat{ratio.Of(8, 3), ratio.Of(-1, 2)}, true},
		{[]api.Rat{ratio.Of(8, 3), ratio.Of(-51, 100)}, false},
		{[]api.Rat{ratio.Of(301, 100), ratio.Zero()}, false},
		{[]api.Rat{ratio.Of(-1, 1<<60), ratio.Zero()}, false},
	} {
		got, e := box.Has(a, x.list)
		expect(t, fmt.Sprint("Has ", x.list), got, e, x.want)
	}
	got, e := box.Has(nil, nil)
	expect(t, "Has none", got, e, true)
	got, e = box.Has(box.Box{{Hi: top()}, {}}, list(1, 0))
	refuse(t, "Has without room", got, e, api.ErrLimbs)
}

// How far each corner of a box goes in each corner of a direction's spans: none
// further than is told, and, with as many bits as there can be, the furthest as far.
func TestSupport(t *testing.T) {
	d := dice(33)
	for i := range 60 {
		n := i % 5
		a, dir := d.box(n, 40), d.box(n, 40)
		furthest := new(big.Rat)
		for j, x := range a {
			most := times(value(x.Lo), value(dir[j].Lo))
			for _, r := range []*big.Rat{times(value(x.Lo), value(dir[j].Hi)), times(value(x.Hi), value(dir[j].Lo)), times(value(x.Hi), value(dir[j].Hi))} {
				most = greater(most, r)
			}
			furthest = plus(furthest, most)
		}
		for _, bits := range widths() {
			got, e := box.Support(a, dir, bits)
			if e != api.OK || value(got).Cmp(furthest) < 0 || bits == dyad.MaxBits && value(got).Cmp(furthest) != 0 {
				t.Errorf("Support of %sin %sto %d bits: %s, error %d, not %s", told(a), told(dir), bits, value(got), e, furthest)
			}
			inner, _ := vec.Inner(a, dir, bits)
			expect(t, "Support of "+told(a)+"in "+told(dir), got, e, inner.Hi)
		}
	}
}

func TestSupportByHand(t *testing.T) {
	a := box.Box{of(1, 3, 0), of(-1, 0, 0)}
	for _, x := range []struct {
		dir  []api.Span
		want int64
	}{
		{[]api.Span{of(1, 1, 0), of(-1, -1, 0)}, 4},
		{[]api.Span{of(-1, -1, 0), of(0, 0, 0)}, -1},
		{[]api.Span{of(-1, 1, 0), of(1, 2, 0)}, 3},
		{[]api.Span{of(0, 0, 0), of(-2, 1, 0)}, 2},
		{[]api.Span{of(0, 0, 0), of(0, 0, 0)}, 0},
	} {
		got, e := box.Support(a, x.dir, 20)
		expect(t, fmt.Sprint("Support in ", told(x.dir)), got, e, dyad.Of(x.want, 0))
	}
	got, e := box.Support(box.Box{of(4, 5, 0)}, []api.Span{of(1, 1, 0)}, 2)
	expect(t, "Support, rounded", got, e, dyad.Of(6, 0))
	got, e = box.Support(nil, nil, 20)
	expect(t, "Support of none", got, e, api.Dyad{})
	for _, bits := range wrongWidths() {
		got, e := box.Support(a, []api.Span{of(1, 1, 0), of(1, 1, 0)}, bits)
		refuse(t, fmt.Sprint("Support to ", bits, " bits"), got, e, api.ErrRange)
	}
	got, e = box.Support(box.Box{of(1, 1, 0), {Hi: top()}}, []api.Span{of(1, 1, 0), of(1, 1, 0)}, 20)
	refuse(t, "Support without room", got, e, api.ErrLimbs)
	got, e = box.Support(box.Box{{Hi: top()}}, []api.Span{of(2, 2, 0)}, 20)
	refuse(t, "Support beyond", got, e, api.ErrRange)
}

func TestWidest(t *testing.T) {
	for _, x := range []struct {
		a    box.Box
		want int64
	}{
		{nil, 0},
		{box.Box{of(7, 7, 0), of(-2, -2, 0)}, 0},
		{box.Box{of(-1, 1, 0), of(2, 5, 0)}, 3},
		{box.Box{of(2, 5, 0), of(-1, 1, 0), of(9, 10, 0)}, 3},
		{box.Box{of(-9, -8, 0), of(-3, 2, 0)}, 5},
	} {
		got, e := box.Widest(x.a)
		expect(t, "Widest of "+told(x.a), got, e, dyad.Of(x.want, 0))
	}
	for at := range 3 {
		a := box.Box{of(1, 2, 0), of(1, 2, 0), of(1, 2, 0)}
		a[at] = api.Span{Lo: dyad.Of(1, 0), Hi: top()}
		got, e := box.Widest(a)
		refuse(t, fmt.Sprint("Widest without room at ", at), got, e, api.ErrLimbs)
		a[at] = span.Even(top())
		got, e = box.Widest(a)
		refuse(t, fmt.Sprint("Widest beyond at ", at), got, e, api.ErrRange)
	}
}

// Places that don't fit are told ahead of layer 6's errors.
func TestUnlikeLengths(t *testing.T) {
	for many := range 4 {
		for others := range 4 {
			if many == others {
				continue
			}
			a, b := make(box.Box, many), make(box.Box, others)
			for i := range a {
				a[i] = span.Point(top())
			}
			what := fmt.Sprint(" of ", many, " and ", others)
			got, e := box.Hull(a, b)
			refuse(t, "Hull"+what, got, e, api.ErrShape)
			got, e = box.Wider(a, make([]api.Dyad, others), 1)
			refuse(t, "Wider"+what, got, e, api.ErrShape)
			yes, e := box.Has(a, list(make([]int64, others)...))
			refuse(t, "Has"+what, yes, e, api.ErrShape)
			far, e := box.Support(a, b, 1)
			refuse(t, "Support"+what, far, e, api.ErrShape)
		}
	}
}
