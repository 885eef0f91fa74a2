package series_test

import (
	"fmt"
	"math"
	"reflect"
	"slices"
	"testing"

	"girdle/api"
	"girdle/dyad"
	"girdle/limbs"
	"girdle/ratio"
	"girdle/series"
)

// given is what calls are given.
type given struct {
	A    [][]api.Rat
	Time api.Rat
	P    series.Growth
	By   api.Span
	Bits int
}

// call is what a call makes of that.
type call func(g given) (any, api.Errno)

// calls: all of them.
func calls() map[string]call {
	return map[string]call{
		"Terms": func(g given) (any, api.Errno) {
			k, left := series.Terms(g.Bits)
			return struct {
				K    int
				Left api.Dyad
			}{k, left}, api.OK
		},
		"Make":   func(g given) (any, api.Errno) { return both(series.Make(g.A, g.Time, g.Bits)) },
		"Twice":  func(g given) (any, api.Errno) { return both(series.Twice(g.P, g.Bits)) },
		"Scaled": func(g given) (any, api.Errno) { return both(series.Scaled(g.P.Exp, g.By, g.Bits)) },
	}
}

// both: an answer, whatever it is, and its error.
func both[T any](got T, e api.Errno) (any, api.Errno) { return got, e }

// full: something in words, the spare room of its lists too.
func full(v reflect.Value) string {
	switch v.Kind() {
	case reflect.Slice:
		text := fmt.Sprint(v.Len(), ":")
		v = v.Slice(0, v.Cap())
		for i := range v.Len() {
			text += full(v.Index(i)) + ","
		}
		return text
	case reflect.Struct:
		text := ""
		for i := range v.NumField() {
			text += full(v.Field(i)) + ";"
		}
		return text
	}
	return fmt.Sprint(v.Interface())
}

// roomy: digits with spare room behind them, all of it filled.
func roomy(n api.Nat) api.Nat {
	all := append(slices.Clone(n), 77, 88, 99)
	return all[:len(n)]
}

func roomyRat(a api.Rat) api.Rat {
	return api.Rat{Num: api.Int{Minus: a.Num.Minus, Size: roomy(a.Num.Size)}, Den: roomy(a.Den)}
}

func roomySpan(a api.Span) api.Span {
	a.Lo.Man.Size, a.Hi.Man.Size = roomy(a.Lo.Man.Size), roomy(a.Hi.Man.Size)
	return a
}

// roomyList: a list of such, with spare room behind it, filled too.
func roomyList[T any](list []T, room func(T) T, more T) []T {
	var all []T
	for _, x := range list {
		all = append(all, room(x))
	}
	all = append(all, room(more), room(more))
	return all[:len(list)]
}

// roomyTable: rows of such, with spare room behind them.
func roomyTable[T any](table [][]T, room func(T) T, more T) [][]T {
	return roomyList(table, func(row []T) []T { return roomyList(row, room, more) }, []T{more})
}

// sets: what is given to all calls, each time new.
func sets() []given {
	d := dice(1234)
	zero := ratio.Zero()
	tables := [][][]api.Rat{
		nil, {{}}, {row(1, 0)}, {row(1, 0, 1), row(1, 0, 0)}, {row(1, 0, 1), row(1, -1, 0)}, {row(1, 2), row(1, 3)}, {{zero, two(63)}, {zero, zero}}, {{two(64)}}, d.rats(2, 9), d.rats(3, 40),
	}
	spans := [][][]api.Span{nil, {{}, {}}, d.spans(1), d.spans(2), d.spans(3), points([]int64{0, 0}, []int64{1, -1}), points([]int64{2, 3})}
	var all []given
	for i, a := range tables {
		for j, s := range spans {
			other := spans[(i+j)%len(spans)]
			if i%2 == 0 {
				other = s
			}
			all = append(all, given{
				A: roomyTable(a, roomyRat, ratio.Of(7, 9)), Time: roomyRat(ratio.Of(int64(i+j-1), 7)),
				P:  series.Growth{Exp: roomyTable(s, roomySpan, of(3, 7, 0)), Sum: roomyTable(other, roomySpan, of(3, 7, 0))},
				By: roomySpan(of(int64(-j), int64(i), -1)), Bits: []int{1, 2, 8, 60}[(i+3*j)%4],
			})
		}
	}
	return all
}

func TestArgumentsStayAsTheyAre(t *testing.T) {
	for name, call := range calls() {
		for _, g := range sets() {
			was := full(reflect.ValueOf(g))
			first, e := call(g)
			if full(reflect.ValueOf(g)) != was {
				t.Fatalf("%s of %v changed what it was given", name, g)
			}
			second, again := call(g)
			if e != again || !same(first, second) {
				t.Fatalf("%s of %v: not twice the same", name, g)
			}
		}
	}
}

// What is answered shares no memory with what was handed in, nor with a later
// answer, nor do two lists of it.
func TestAnswersAreNewMemory(t *testing.T) {
	for name, call := range calls() {
		for _, g := range sets() {
			first, _ := call(g)
			second, _ := call(g)
			memory, later := memories(reflect.ValueOf(&first)), memories(reflect.ValueOf(&second))
			if shared(memory, memories(reflect.ValueOf(g))) {
				t.Fatalf("%s of %v: the answer shares memory with that", name, g)
			}
			if shared(memory, later) {
				t.Fatalf("%s of %v: an answer shares memory with a later one", name, g)
			}
			if sharedWithin(memory) {
				t.Fatalf("%s of %v: the answer shares memory with itself", name, g)
			}
		}
	}
}

// wrongRats: what is no ratio, beside some that are.
func wrongRats() []api.Rat {
	sizes := []api.Nat{nil, {1}, {6}, {0}, {0, 0, 5, 0}, sizeOf(ones(maxBits)), make(api.Nat, limbs.MaxLimbs+1), sizeOf(ones(1 << 20))}
	var all []api.Rat
	for i, num := range sizes {
		for _, den := range sizes {
			all = append(all, api.Rat{Num: api.Int{Minus: i%2 == 0, Size: num}, Den: den})
		}
	}
	return all
}

// wrongSpans: what is no span, beside some that are.
func wrongSpans() []api.Span {
	var ends []api.Dyad
	for _, r := range wrongRats() {
		for _, exp := range []int{0, -dyad.MaxExp, dyad.MaxExp, math.MaxInt, math.MinInt} {
			ends = append(ends, api.Dyad{Man: r.Num, Exp: exp})
		}
	}
	all := []api.Span{of(3, -3, 0), of(1, 2, 0)}
	for i := range 64 {
		all = append(all, api.Span{Lo: ends[(29*i)%len(ends)], Hi: ends[(7*i+3)%len(ends)]})
	}
	return all
}

// rows: a table of so many rows and columns of what stands in a list.
func rows[T any](list []T, rows, cols, from int) [][]T {
	all := make([][]T, rows)
	for i := range all {
		for j := range cols {
			all[i] = append(all[i], list[(from+7*i+3*j)%len(list)])
		}
	}
	return all
}

// All calls end at all arguments, and none panics; and an error stands alone.
func TestWrongArguments(t *testing.T) {
	rats, spans := wrongRats(), wrongSpans()
	fine := [][]api.Rat{row(1, 1, -2), row(3, 4, 5)}
	for i := range 2 * len(rats) {
		n, m := i%4, i/4%4
		g := given{
			A: rows(rats, n, n, i), Time: rats[(17*i)%len(rats)], By: spans[i%len(spans)], Bits: []int{math.MinInt, 8, 20, 64, 512, math.MaxInt}[i%6],
			P: series.Growth{Exp: rows(spans, n, n, i), Sum: rows(spans, n, m, 5*i)},
		}
		callAll(t, g)
		g.A, g.Bits = fine, 20
		callAll(t, g)
		g.A, g.Time = rows(rats, n, n, 3*i), ratio.Of(1, 3)
		g.P.Exp, g.P.Sum = append(g.P.Exp, nil, spans[:3]), append(g.P.Sum, nil)
		callAll(t, g)
	}
	callAll(t, given{})
}

func callAll(t *testing.T, g given) {
	t.Helper()
	for name, call := range calls() {
		got, e := call(g)
		if e == api.OK {
			continue
		}
		if p, ok := got.(series.Growth); ok {
			refuse(t, name, p, e, e)
		} else if table, ok := got.([][]api.Span); !ok || len(table) != 0 {
			t.Errorf("%s: error %d and %d rows", name, e, len(table))
		}
	}
}
