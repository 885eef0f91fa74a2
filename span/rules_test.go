package span_test

import (
	"fmt"
	"math"
	"math/big"
	"slices"
	"testing"

	"girdle/api"
	"girdle/dyad"
	"girdle/limbs"
	"girdle/ratio"
	"girdle/span"
)

// call is what a call makes of two spans.
type call func(a, b api.Span) (api.Span, api.Errno)

// calls: all calls that answer spans, or numbers, which stand as the first end.
func calls() map[string]call {
	alone := func(f func(a api.Span) api.Span) call {
		return func(a, _ api.Span) (api.Span, api.Errno) { return f(a), api.OK }
	}
	number := func(f func(a api.Span) (api.Dyad, api.Errno)) call {
		return func(a, _ api.Span) (api.Span, api.Errno) {
			d, e := f(a)
			return api.Span{Lo: d}, e
		}
	}
	list := map[string]call{
		"Make":   func(a, b api.Span) (api.Span, api.Errno) { return span.Make(a.Lo, b.Hi) },
		"Point":  alone(func(a api.Span) api.Span { return span.Point(a.Hi) }),
		"Even":   alone(func(a api.Span) api.Span { return span.Even(a.Lo) }),
		"Neg":    alone(span.Neg),
		"Hull":   func(a, b api.Span) (api.Span, api.Errno) { return span.Hull(a, b), api.OK },
		"Meet":   span.Meet,
		"Size":   number(func(a api.Span) (api.Dyad, api.Errno) { return span.Size(a), api.OK }),
		"Width":  number(span.Width),
		"Middle": number(span.Middle),
	}
	for _, bits := range []int{math.MinInt, 1, 2, 8, dyad.MaxBits, math.MaxInt} {
		list[fmt.Sprint("Near of ", bits)] = func(a, b api.Span) (api.Span, api.Errno) {
			return span.Near(api.Rat{Num: a.Lo.Man, Den: b.Hi.Man.Size}, bits)
		}
		list[fmt.Sprint("Round to ", bits)] = func(a, _ api.Span) (api.Span, api.Errno) { return span.Round(a, bits) }
		list[fmt.Sprint("Add to ", bits)] = func(a, b api.Span) (api.Span, api.Errno) { return span.Add(a, b, bits) }
		list[fmt.Sprint("Sub to ", bits)] = func(a, b api.Span) (api.Span, api.Errno) { return span.Sub(a, b, bits) }
		list[fmt.Sprint("Mul to ", bits)] = func(a, b api.Span) (api.Span, api.Errno) { return span.Mul(a, b, bits) }
		list[fmt.Sprint("Sum of none to ", bits)] = func(_, _ api.Span) (api.Span, api.Errno) { return span.Sum(bits) }
		list[fmt.Sprint("Sum of one to ", bits)] = func(a, _ api.Span) (api.Span, api.Errno) { return span.Sum(bits, a) }
		list[fmt.Sprint("Sum to ", bits)] = func(a, b api.Span) (api.Span, api.Errno) { return span.Sum(bits, a, b, a) }
	}
	return list
}

// roomy: a span with spare room behind its ends' digits, all of it filled.
func roomy(a api.Span) (api.Span, [2][]uint32) {
	lo := append(slices.Clone(a.Lo.Man.Size), 77, 88, 99)
	hi := append(slices.Clone(a.Hi.Man.Size), 77, 88, 99)
	a.Lo.Man.Size, a.Hi.Man.Size = lo[:len(lo)-3], hi[:len(hi)-3]
	return a, [2][]uint32{lo, hi}
}

func clones(all [2][]uint32) [2][]uint32 {
	return [2][]uint32{slices.Clone(all[0]), slices.Clone(all[1])}
}

func sameDigits(a, b [2][]uint32) bool {
	return slices.Equal(a[0], b[0]) && slices.Equal(a[1], b[1])
}

// spoil: write over digits, and their spare room.
func spoil(list ...[]uint32) {
	for _, a := range list {
		for i := range a[:cap(a)] {
			a[:cap(a)][i] = 0xdead
		}
	}
}

// own: the same span in memory of its own.
func own(a api.Span) api.Span {
	a.Lo.Man.Size, a.Hi.Man.Size = slices.Clone(a.Lo.Man.Size), slices.Clone(a.Hi.Man.Size)
	return a
}

// some: few spans, with what calls go different ways for.
func some() []api.Span {
	return []api.Span{
		{}, of(1, 1, 0), of(-1, 0, 0), of(-7, 5, -3), of(3, 21, 2), of(-9, -5, 0), {Lo: number(ones(70), -10), Hi: number(ones(71), 0)}, span.Even(number(big.NewInt(1), dyad.MaxExp)), {Hi: number(big.NewInt(1), -dyad.MaxExp)},
	}
}

func TestArgumentsStayAsTheyAre(t *testing.T) {
	for name, call := range calls() {
		for _, x := range some() {
			for _, y := range some() {
				a, allA := roomy(x)
				b, allB := roomy(y)
				wasA, wasB := clones(allA), clones(allB)
				first, e := call(a, b)
				if !sameDigits(allA, wasA) || !sameDigits(allB, wasB) {
					t.Fatalf("%s of %s and %s changed them", name, told(x), told(y))
				}
				second, again := call(a, b)
				if e != again || !sameSpan(first, second) {
					t.Fatalf("%s of %s and %s: not twice the same", name, told(x), told(y))
				}
			}
		}
	}
}

// What is answered shares no memory with what was handed in, nor with itself, nor
// with a later answer. (A span or a number that is answered as it was handed in
// might share it; here none does.)
func TestAnswersAreNewMemory(t *testing.T) {
	for name, call := range calls() {
		for _, x := range some() {
			for _, y := range some() {
				checkMemory(t, name, call, x, y)
			}
		}
	}
}

func checkMemory(t *testing.T, name string, call call, x, y api.Span) {
	t.Helper()
	a, allA := roomy(x)
	b, allB := roomy(y)
	wasA, wasB := clones(allA), clones(allB)
	got, _ := call(a, b)
	want := own(got)
	spoil(got.Lo.Man.Size)
	if !sameDyad(got.Hi, want.Hi) {
		t.Fatalf("%s of %s and %s: one end shares memory with the other", name, told(x), told(y))
	}
	spoil(got.Hi.Man.Size)
	if !sameDigits(allA, wasA) || !sameDigits(allB, wasB) {
		t.Fatalf("%s of %s and %s: the answer shares memory with them", name, told(x), told(y))
	}
	if got, _ = call(a, b); !sameSpan(got, want) {
		t.Fatalf("%s of %s and %s: an answer shares memory with a later one", name, told(x), told(y))
	}
	spoil(allA[0], allA[1], allB[0], allB[1])
	if !sameSpan(got, want) {
		t.Fatalf("%s of %s and %s: they share memory with the answer", name, told(x), told(y))
	}
}

// A list that is handed in isn't changed either.
func TestSumKeepsItsList(t *testing.T) {
	list := []api.Span{of(1, 2, 0), of(-3, 3, 0), of(21, 31, -2)}
	was := []api.Span{own(list[0]), own(list[1]), own(list[2])}
	span.Sum(2, list...)
	if !slices.EqualFunc(list, was, sameSpan) {
		t.Error("Sum changed its list")
	}
}

// wrong: what is no span, short and long, beside some that are.
func wrong() []api.Span {
	var ends []api.Dyad
	for _, size := range []api.Nat{nil, {1}, {2}, {0}, {0, 0, 6, 0}, sizeOf(ones(maxBits)), make(api.Nat, limbs.MaxLimbs+1), sizeOf(power(maxBits))} {
		for _, exp := range []int{0, -dyad.MaxExp, dyad.MaxExp + 1, math.MaxInt, math.MinInt} {
			ends = append(ends, api.Dyad{Man: api.Int{Minus: len(ends)%2 == 1, Size: size}, Exp: exp})
		}
	}
	var list []api.Span
	for i, lo := range ends {
		list = append(list, api.Span{Lo: lo, Hi: ends[(7*i+3)%len(ends)]}, api.Span{Lo: lo, Hi: lo})
	}
	return append(list, of(3, -3, 0), of(1, 2, 0))
}

// All calls end at all arguments, and none panics; and an error stands alone.
func TestWrongSpans(t *testing.T) {
	callAll(t, wrong(), wrong())
}

// Nor does it take for ever: digit by digit these would be multiplied, or divided, for hours.
func TestHugeSpans(t *testing.T) {
	huge := api.Int{Size: sizeOf(ones(1 << 24))}
	list := []api.Span{
		{Lo: api.Dyad{Man: huge}, Hi: api.Dyad{Man: huge, Exp: 5}}, {Lo: api.Dyad{Man: api.Int{Minus: true, Size: huge.Size}, Exp: -7}, Hi: dyad.Of(1, 0)}, of(1, 3, 0),
	}
	callAll(t, list, list)
}

func callAll(t *testing.T, list, others []api.Span) {
	t.Helper()
	for _, a := range list {
		span.Check(a)
		span.Text(a)
		for _, b := range others {
			span.Has(a, b.Lo)
			span.Holds(a, b)
			for _, r := range []api.Rat{{}, ratio.Of(1, 3), {Num: b.Lo.Man, Den: b.Hi.Man.Size}} {
				if yes, e := span.HasRatio(a, r); yes && e != api.OK {
					t.Errorf("HasRatio: error %d, and yes", e)
				}
			}
			for name, call := range calls() {
				got, e := call(a, b)
				if e != api.OK {
					refuse(t, name, got, e, e)
				}
			}
		}
	}
}
