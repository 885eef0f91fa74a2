package series

import (
	"testing"

	"girdle/api"
	"girdle/dyad"
	"girdle/ratio"
	"girdle/span"
)

// What is left behind the terms is hidden by what is rounded: so what none of the
// answers shows is tried here by itself.

// linked: a table of 1 at some places.
func linked(n int, places ...[2]int) [][]api.Rat {
	all := make([][]api.Rat, n)
	for i := range all {
		for range n {
			all[i] = append(all[i], ratio.Zero())
		}
	}
	for _, at := range places {
		all[at[0]][at[1]] = ratio.Of(-1, 1)
	}
	return all
}

func TestRemainder(t *testing.T) {
	left := dyad.Of(3, -7)
	for _, x := range []struct {
		name  string
		a     [][]api.Rat
		count int
		want  []string
	}{
		{"none", linked(2), 1, []string{"..", ".."}},
		{"one to itself", linked(2, [2]int{0, 0}), 5, []string{"x.", ".."}},
		{"one to another one", linked(2, [2]int{0, 1}), 1, []string{".x", ".."}},
		{"that, twice", linked(2, [2]int{0, 1}), 2, []string{"..", ".."}},
		{"a row of three", linked(3, [2]int{0, 1}, [2]int{1, 2}), 1, []string{".xx", "..x", "..."}},
		{"that, twice", linked(3, [2]int{0, 1}, [2]int{1, 2}), 2, []string{"..x", "...", "..."}},
		{"that, three times", linked(3, [2]int{0, 1}, [2]int{1, 2}), 3, []string{"...", "...", "..."}},
		{"a ring", linked(3, [2]int{0, 1}, [2]int{1, 2}, [2]int{2, 0}), 7, []string{"xxx", "xxx", "xxx"}},
		{"to one, and round there", linked(3, [2]int{0, 1}, [2]int{1, 1}), 9, []string{".x.", ".x.", "..."}},
		{"round there, and away", linked(3, [2]int{1, 1}, [2]int{1, 2}), 9, []string{"...", ".xx", "..."}},
	} {
		for i, row := range remainder(x.a, x.count, left) {
			for j, got := range row {
				var want api.Span
				if x.want[i][j] == 'x' {
					want = span.Even(left)
				}
				if span.Text(got) != span.Text(want) {
					t.Errorf("%s: at %d, %d %s", x.name, i, j, span.Text(got))
				}
			}
		}
	}
}

// Of a table that is reckoned to be nothing there is 1, and what may be left of one
// that isn't.
func TestMeanGrowthHoldsWhatIsLeft(t *testing.T) {
	for _, x := range []struct {
		a    [][]api.Rat
		wide bool
	}{
		{linked(1, [2]int{0, 0}), true},
		{linked(1), false},
	} {
		s := system{table: x.a, time: ratio.Of(1, 1), small: 1, bits: 20}
		sum, e := s.meanGrowth(zeros(1))
		if e != api.OK {
			t.Fatalf("error %d", e)
		}
		one := power(0)
		if got := sum[0][0]; dyad.Less(got.Lo, one) != x.wide || dyad.Less(one, got.Hi) != x.wide || !span.Has(got, one) {
			t.Errorf("%s", span.Text(got))
		}
	}
}

// Behind the terms of a small table no more is left than is told.
func TestTermsOfSmall(t *testing.T) {
	for _, small := range []int{1, 2, 5, 40} {
		for bits := 8; bits < 100; bits++ {
			count, left := terms(small, bits)
			// The next one, and as much again, which all others don't come to.
			next := power(1 - small*count)
			for i := range count {
				by, _ := dyad.Near(ratio.Of(1, int64(i+1)), 200, true)
				next, _ = dyad.Mul(next, by)
				next, _ = dyad.Round(next, 200, true)
			}
			if dyad.Less(left, next) || dyad.Less(power(-bits), left) {
				t.Errorf("small %d, %d bits: %d terms", small, bits, count)
			}
		}
	}
	if _, left := terms(1<<15, 1<<19); dyad.Compare(left, power(-dyad.MaxExp)) != 0 {
		t.Error("less is left than can be")
	}
}

func TestLevel(t *testing.T) {
	one := ratio.Of(1, 1)
	for _, x := range []struct {
		name string
		a    [][]api.Rat
		time api.Rat
		want int
	}{
		{"nothing", [][]api.Rat{{ratio.Zero()}}, one, lowestLevel},
		{"no rows", nil, one, lowestLevel},
		{"no time", [][]api.Rat{{one}}, ratio.Zero(), lowestLevel},
		{"1", [][]api.Rat{{one}}, one, 0},
		{"-1", [][]api.Rat{{ratio.Of(-1, 1)}}, one, 0},
		{"a bit more than 1", [][]api.Rat{{ratio.Of(1001, 1000)}}, one, 1},
		{"a bit less than 1", [][]api.Rat{{ratio.Of(999, 1000)}}, one, 0},
		{"a half", [][]api.Rat{{ratio.Of(1, 2)}}, one, -1},
		{"a third", [][]api.Rat{{ratio.Of(1, 3)}}, one, -1},
		{"a third of a third", [][]api.Rat{{ratio.Of(1, 3)}}, ratio.Of(1, 3), -3},
		{"a third for three", [][]api.Rat{{ratio.Of(1, 3)}}, ratio.Of(3, 1), 0},
		{"a row of two", [][]api.Rat{{one, ratio.Of(-3, 1)}, {one, one}}, one, 2},
		{"the last row", [][]api.Rat{{one, one}, {ratio.Of(1, 3), ratio.Of(-14, 3)}}, one, 3},
	} {
		if got := level(x.a, x.time); got != x.want {
			t.Errorf("%s: %d, not %d", x.name, got, x.want)
		}
	}
}

// Numbers that are too far apart for layer 5, and those that are as near as they may be.
func TestAddOfFarApart(t *testing.T) {
	one, none := power(0), api.Dyad{}
	for _, up := range []bool{false, true} {
		for _, exp := range []int{-dyad.MaxExp, -20000, -13000, -12288, -200, 13000, dyad.MaxExp} {
			for _, sign := range []int{1, -1} {
				tiny := power(exp)
				if sign < 0 {
					tiny = dyad.Neg(tiny)
				}
				sum, e := add(one, tiny, 20, up)
				other, f := add(tiny, one, 20, up)
				if e != api.OK || f != api.OK || dyad.Compare(sum, other) != 0 {
					t.Errorf("1 and 2^%d: errors %d, %d", exp, e, f)
				}
				greater, lesser := one, tiny
				if exp > 0 {
					greater, lesser = tiny, one
				}
				// Rounded towards where the lesser one leads, it is one of the last bit away; else the greater one.
				if away := (dyad.Sign(lesser) > 0) == up; (dyad.Compare(sum, greater) != 0) != away || up == dyad.Less(sum, greater) && away {
					t.Errorf("1 and %d times 2^%d, up: %t: %v", sign, exp, up, sum)
				}
			}
		}
		if sum, e := add(none, power(dyad.MaxExp), 20, up); e != api.OK || dyad.Compare(sum, power(dyad.MaxExp)) != 0 {
			t.Errorf("0 and a very great one: error %d", e)
		}
		if sum, e := add(power(-dyad.MaxExp), none, 20, up); e != api.OK || dyad.Compare(sum, power(-dyad.MaxExp)) != 0 {
			t.Errorf("0 and a very small one: error %d", e)
		}
	}
}

// What is as small as hardly can be is rounded ahead of being multiplied, outwards.
func TestMulOfHardlyAnything(t *testing.T) {
	tiny := span.Point(power(-dyad.MaxExp))
	got, e := mulSpans(tiny, tiny, 20)
	if e != api.OK || dyad.Sign(got.Lo) != 0 || dyad.Compare(got.Hi, power(2*leftOf(tiny))) != 0 {
		t.Errorf("above 0: error %d, %v", e, got)
	}
	got, e = mulSpans(tiny, span.Neg(tiny), 20)
	if e != api.OK || dyad.Compare(got.Lo, dyad.Neg(power(2*leftOf(tiny)))) != 0 || dyad.Sign(got.Hi) != 0 {
		t.Errorf("below 0: error %d, %v", e, got)
	}
	if got, e = mulSpans(span.Point(power(-30000)), span.Point(power(-30001)), 20); e != api.OK || span.Text(got) != "" || dyad.Compare(got.Lo, power(-60001)) != 0 || dyad.Compare(got.Hi, got.Lo) != 0 {
		t.Errorf("not as small: error %d, %v", e, got)
	}
}

// leftOf: the exponent of what a very small span is rounded up to.
func leftOf(a api.Span) int { return multiples(a).Hi.Exp }

// A ratio is held, whatever stands above and below, and by no more than four of the last bit.
func TestNear(t *testing.T) {
	for _, above := range []int64{1, -1, 5, 37, -1023, 1025, 123456789, -987654321} {
		for _, below := range []int64{1, 2, 3, 7, 1023, 1025, 4096, 99999989} {
			for _, bits := range []int{4, 5, 10, 64} {
				r := ratio.Of(above, below)
				got, e := near(r, bits)
				yes, f := span.HasRatio(got, r)
				width, _ := span.Width(got)
				most, _ := dyad.Mul(span.Size(got), power(3-bits))
				if e != api.OK || f != api.OK || !yes || dyad.Less(most, width) {
					t.Errorf("%s to %d bits: error %d, %s", ratio.Text(r), bits, e, span.Text(got))
				}
			}
		}
	}
	if got, e := near(ratio.Zero(), 10); e != api.OK || !isZero(got) {
		t.Errorf("0: error %d, %s", e, span.Text(got))
	}
	if got, e := near(ratio.Of(-5, 8), 10); e != api.OK || span.Text(got) != "-5/8..-5/8" {
		t.Errorf("-5/8: error %d, %s", e, span.Text(got))
	}
}
