package span_test

import (
	"math/big"
	"testing"

	"girdle/api"
	"girdle/dyad"
	"girdle/ratio"
	"girdle/span"
	"girdle/whole"
)

func TestMake(t *testing.T) {
	for lo := int64(-6); lo <= 6; lo++ {
		for hi := int64(-6); hi <= 6; hi++ {
			got, e := span.Make(dyad.Of(lo, -1), dyad.Of(hi, -1))
			if hi < lo {
				refuse(t, "Make", got, e, api.ErrRange)
				continue
			}
			expect(t, "Make", got, e, of(lo, hi, -1))
		}
	}
	far, e := span.Make(dyad.Neg(number(big.NewInt(1), dyad.MaxExp)), number(big.NewInt(1), -dyad.MaxExp))
	expect(t, "Make of far ends", far, e, api.Span{Lo: number(big.NewInt(-1), dyad.MaxExp), Hi: number(big.NewInt(1), -dyad.MaxExp)})
	got, e := span.Make(far.Hi, far.Lo)
	refuse(t, "Make of far ends, the other way round", got, e, api.ErrRange)
}

func TestCheck(t *testing.T) {
	for _, a := range spans() {
		if e := span.Check(a); e != api.OK {
			t.Errorf("Check of %s: %d", told(a), e)
		}
	}
	one, even, beyond := dyad.Of(1, 0), api.Dyad{Man: whole.Of(2)}, api.Dyad{Man: whole.Of(1), Exp: dyad.MaxExp + 1}
	long := api.Dyad{Man: api.Int{Size: sizeOf(ones(maxBits + 1))}}
	for _, x := range []struct {
		what string
		a    api.Span
		want api.Errno
	}{
		{"the greater one first", api.Span{Lo: one}, api.ErrRange},
		{"one alone", api.Span{Lo: one, Hi: one}, api.OK},
		{"0 alone", api.Span{}, api.OK},
		{"an even first one", api.Span{Lo: even, Hi: dyad.Of(3, 0)}, api.ErrForm},
		{"an even first one, the greater", api.Span{Lo: even}, api.ErrForm},
		{"an even second one", api.Span{Lo: one, Hi: even}, api.ErrForm},
		{"a first one beyond", api.Span{Lo: beyond, Hi: even}, api.ErrRange},
		{"a second one beyond", api.Span{Lo: one, Hi: beyond}, api.ErrRange},
		{"an even first one, and one too long", api.Span{Lo: even, Hi: long}, api.ErrForm},
		{"one too long, and an even one", api.Span{Lo: long, Hi: even}, api.ErrLimbs},
		{"a second one too long", api.Span{Lo: one, Hi: long}, api.ErrLimbs},
	} {
		if e := span.Check(x.a); e != x.want {
			t.Errorf("Check of %s: %d, not %d", x.what, e, x.want)
		}
	}
}

func TestPointAndEven(t *testing.T) {
	for _, a := range spans() {
		for _, d := range []api.Dyad{a.Lo, a.Hi} {
			expect(t, "Point", span.Point(d), api.OK, api.Span{Lo: d, Hi: d})
			size := dyad.Abs(d)
			expect(t, "Even", span.Even(d), api.OK, api.Span{Lo: dyad.Neg(size), Hi: size})
			expect(t, "Even of it the other way round", span.Even(dyad.Neg(d)), api.OK, api.Span{Lo: dyad.Neg(size), Hi: size})
		}
	}
	expect(t, "Even of -5/2", span.Even(dyad.Of(-5, -1)), api.OK, of(-5, 5, -1))
	expect(t, "Even of 0", span.Even(api.Dyad{}), api.OK, api.Span{})
}

// smaller, greater: the lesser, the greater one of two ratios.
func smaller(a, b *big.Rat) *big.Rat {
	if b.Cmp(a) < 0 {
		return b
	}
	return a
}

func greater(a, b *big.Rat) *big.Rat {
	if b.Cmp(a) > 0 {
		return b
	}
	return a
}

func TestHullAndMeet(t *testing.T) {
	for _, a := range spans() {
		for _, b := range spans() {
			lo, hi := value(a.Lo), value(a.Hi)
			low, high := value(b.Lo), value(b.Hi)
			what := told(a) + " and " + told(b)
			hull := span.Hull(a, b)
			if value(hull.Lo).Cmp(smaller(lo, low)) != 0 || value(hull.Hi).Cmp(greater(hi, high)) != 0 || span.Check(hull) != api.OK {
				t.Errorf("Hull of %s: %s", what, told(hull))
			}
			meet, e := span.Meet(a, b)
			if greater(lo, low).Cmp(smaller(hi, high)) > 0 {
				refuse(t, "Meet of "+what, meet, e, api.ErrMissing)
				continue
			}
			if e != api.OK || value(meet.Lo).Cmp(greater(lo, low)) != 0 || value(meet.Hi).Cmp(smaller(hi, high)) != 0 || span.Check(meet) != api.OK {
				t.Errorf("Meet of %s: %s, error %d", what, told(meet), e)
			}
		}
	}
}

func TestMeetByHand(t *testing.T) {
	for _, x := range []struct {
		a, b, want api.Span
		e          api.Errno
	}{
		{of(0, 2, 0), of(1, 3, 0), of(1, 2, 0), api.OK},
		{of(0, 1, 0), of(1, 3, 0), of(1, 1, 0), api.OK}, // the ends are in it
		{of(0, 1, 0), of(2, 3, 0), api.Span{}, api.ErrMissing},
		{of(0, 3, 0), of(1, 2, 0), of(1, 2, 0), api.OK},
		{of(0, 0, 0), of(0, 0, 0), of(0, 0, 0), api.OK},
		{of(4, 4, -1), of(5, 5, -1), api.Span{}, api.ErrMissing},
	} {
		for range 2 {
			got, e := span.Meet(x.a, x.b)
			if e != x.e || !sameSpan(got, x.want) {
				t.Errorf("Meet of %s and %s: %s, error %d", told(x.a), told(x.b), told(got), e)
			}
			x.a, x.b = x.b, x.a
		}
	}
}

func TestHasAndHolds(t *testing.T) {
	for _, a := range spans() {
		for _, b := range spans() {
			lo, hi := holds(a, value(b.Lo)), holds(a, value(b.Hi))
			if span.Has(a, b.Lo) != lo || span.Has(a, b.Hi) != hi {
				t.Errorf("has %s the ends of %s?", told(a), told(b))
			}
			if span.Holds(a, b) != (lo && hi) {
				t.Errorf("holds %s %s?", told(a), told(b))
			}
			for _, r := range within(b) {
				if got, e := span.HasRatio(a, ratOf(r)); e != api.OK || got != holds(a, r) {
					t.Errorf("has %s %s? error %d", told(a), r, e)
				}
			}
		}
	}
}

func TestHasAtTheEnds(t *testing.T) {
	a := of(-3, 5, -1)
	for n := int64(-8); n <= 12; n++ {
		want := n >= -6 && n <= 10
		d := dyad.Of(n, -2)
		if span.Has(a, d) != want || span.Holds(a, span.Point(d)) != want {
			t.Errorf("has it %d/4?", n)
		}
		if got, e := span.HasRatio(a, ratio.Of(n, 4)); e != api.OK || got != want {
			t.Errorf("has it the ratio %d/4? error %d", n, e)
		}
	}
	for _, x := range []struct {
		r    api.Rat
		want bool
	}{{ratio.Of(-3001, 2000), false}, {ratio.Of(-2999, 2000), true}, {ratio.Of(7499, 3000), true}, {ratio.Of(7501, 3000), false}} {
		if got, e := span.HasRatio(a, x.r); e != api.OK || got != x.want {
			t.Errorf("has it %s? error %d", ratio.Text(x.r), e)
		}
	}
}

// Where an end has no ratio, or can't be compared, that is told, whatever the other one says.
func TestHasRatioWithoutRoom(t *testing.T) {
	far, tiny := number(big.NewInt(1), maxBits), number(big.NewInt(1), -maxBits)
	for _, x := range []struct {
		what string
		a    api.Span
		r    api.Rat
	}{
		{"a second end too great", api.Span{Hi: far}, ratio.Of(1, 1)},
		{"a second end too great, and a ratio below the first one", api.Span{Hi: far}, ratio.Of(-1, 1)},
		{"a first end too great", api.Span{Lo: dyad.Neg(far), Hi: dyad.Of(1, 0)}, ratio.Of(0, 1)},
		{"a first end too small", api.Span{Lo: tiny, Hi: dyad.Of(1, 0)}, ratio.Of(0, 1)},
		{"a product with too many digits", api.Span{Lo: dyad.Of(0, 0), Hi: number(big.NewInt(1), maxBits-1)}, ratio.Of(1, 3)},
	} {
		if got, e := span.HasRatio(x.a, x.r); got || e != api.ErrLimbs {
			t.Errorf("%s: %t, error %d", x.what, got, e)
		}
	}
}

func TestSizeWidthMiddle(t *testing.T) {
	for _, a := range spans() {
		lo, hi := value(a.Lo), value(a.Hi)
		if got := span.Size(a); value(got).Cmp(greater(new(big.Rat).Abs(lo), new(big.Rat).Abs(hi))) != 0 || dyad.Check(got) != api.OK {
			t.Errorf("Size of %s: %s", told(a), value(got))
		}
		if got, e := span.Width(a); e != api.OK || value(got).Cmp(minus(hi, lo)) != 0 || dyad.Check(got) != api.OK {
			t.Errorf("Width of %s: %s, error %d", told(a), value(got), e)
		}
		if got, e := span.Middle(a); e != api.OK || value(got).Cmp(times(plus(lo, hi), big.NewRat(1, 2))) != 0 || dyad.Check(got) != api.OK {
			t.Errorf("Middle of %s: %s, error %d", told(a), value(got), e)
		}
	}
}

// What has no room, or is beyond: layer 5's errors.
func TestWidthAndMiddleBeyond(t *testing.T) {
	top, bottom := number(big.NewInt(1), dyad.MaxExp), number(big.NewInt(1), -dyad.MaxExp)
	wide := api.Span{Lo: bottom, Hi: top}
	got, e := span.Width(wide)
	refuseNumber(t, "Width of what is far apart", got, e, api.ErrLimbs)
	got, e = span.Middle(wide)
	refuseNumber(t, "Middle of what is far apart", got, e, api.ErrLimbs)
	got, e = span.Width(span.Even(top))
	refuseNumber(t, "Width of the greatest", got, e, api.ErrRange)
	got, e = span.Middle(span.Even(top))
	if e != api.OK || !sameDyad(got, api.Dyad{}) {
		t.Errorf("Middle of the greatest both ways: error %d", e)
	}
	got, e = span.Middle(api.Span{Hi: bottom})
	refuseNumber(t, "half of the least", got, e, api.ErrRange)
	got, e = span.Middle(span.Point(bottom))
	if e != api.OK || !sameDyad(got, bottom) {
		t.Errorf("Middle of the least alone: error %d", e)
	}
}

func TestText(t *testing.T) {
	for _, x := range []struct {
		a    api.Span
		want string
	}{
		{of(-2, 3, 0), "-2..3"},
		{of(-3, 5, -1), "-3/2..5/2"},
		{of(0, 1, -2), "0..1/4"},
		{api.Span{}, "0..0"},
		{of(7, 7, 3), "56..56"},
		{api.Span{Lo: number(big.NewInt(1), 1-maxBits), Hi: number(big.NewInt(1), maxBits-1)}, "1/" + power(maxBits-1).String() + ".." + power(maxBits-1).String()},
		{api.Span{Hi: number(big.NewInt(1), maxBits)}, ""},
		{api.Span{Hi: number(ones(2), maxBits-1)}, ""},
		{api.Span{Lo: number(big.NewInt(-1), maxBits)}, ""},
		{api.Span{Lo: number(big.NewInt(-1), dyad.MaxExp), Hi: dyad.Of(1, 0)}, ""},
		{api.Span{Lo: number(big.NewInt(1), -maxBits), Hi: dyad.Of(1, 0)}, ""},
	} {
		if got := span.Text(x.a); got != x.want {
			t.Errorf("Text: %.60s, not %.60s", got, x.want)
		}
	}
	for _, a := range spans() {
		if got, want := span.Text(a), value(a.Lo).RatString()+".."+value(a.Hi).RatString(); got != want {
			t.Errorf("Text: %s, not %s", got, want)
		}
	}
}
