package mat_test

import (
	"fmt"
	"math"
	"math/big"
	"reflect"
	"slices"
	"testing"

	"girdle/api"
	"girdle/dyad"
	"girdle/limbs"
	"girdle/mat"
	"girdle/ratio"
	"girdle/span"
)

// given is what calls are given.
type given struct {
	A, B [][]api.Rat
	S, T [][]api.Span
	X    []api.Rat
	Y    []api.Span
	By   api.Rat
	Size api.Dyad
	N, M int
	Bits int
}

// call is what a call makes of that.
type call func(g given) (any, api.Errno)

// calls: all of them; of Check the error alone.
func calls() map[string]call {
	return map[string]call{
		"Zero":  func(g given) (any, api.Errno) { return mat.Zero(g.N, g.M), api.OK },
		"One":   func(g given) (any, api.Errno) { return mat.One(g.N), api.OK },
		"Check": func(g given) (any, api.Errno) { return nil, mat.Check(g.A, g.N, g.M) },
		"Turn":  func(g given) (any, api.Errno) { return both(mat.Turn(g.A)) },
		"Mul":   func(g given) (any, api.Errno) { return both(mat.Mul(g.A, g.B)) },
		"Apply": func(g given) (any, api.Errno) { return both(mat.Apply(g.A, g.X)) },
		"Add":   func(g given) (any, api.Errno) { return both(mat.Add(g.A, g.B)) },
		"Scale": func(g given) (any, api.Errno) { return both(mat.Scale(g.A, g.By)) },
		"Near":  func(g given) (any, api.Errno) { return both(mat.Near(g.A, g.Bits)) },
		"Times": func(g given) (any, api.Errno) { return both(mat.Times(g.S, g.T, g.Bits)) },
		"On":    func(g given) (any, api.Errno) { return both(mat.On(g.S, g.Y, g.Bits)) },
		"Plus":  func(g given) (any, api.Errno) { return both(mat.Plus(g.S, g.T, g.Bits)) },
		"Even":  func(g given) (any, api.Errno) { return mat.Even(g.N, g.Size), api.OK },
		"Norm":  func(g given) (any, api.Errno) { return both(mat.Norm(g.A)) },
		"Size":  func(g given) (any, api.Errno) { return both(mat.Size(g.S, g.Bits)) },
		"Holds": func(g given) (any, api.Errno) { return both(mat.Holds(g.S, g.A)) },
	}
}

// both: an answer, whatever it is, and its error.
func both[T any](got T, e api.Errno) (any, api.Errno) { return got, e }

// full: something in words, the spare room of its lists too.
func full(v reflect.Value) string {
	switch v.Kind() {
	case reflect.Slice:
		text := fmt.Sprint(v.Len(), ":")
		v = v.Slice(0, v.Cap())
		for i := range v.Len() {
			text += full(v.Index(i)) + ","
		}
		return text
	case reflect.Struct:
		text := ""
		for i := range v.NumField() {
			text += full(v.Field(i)) + ";"
		}
		return text
	}
	return fmt.Sprint(v.Interface())
}

// roomy: digits with spare room behind them, all of it filled.
func roomy(n api.Nat) api.Nat {
	all := append(slices.Clone(n), 77, 88, 99)
	return all[:len(n)]
}

func roomyRat(a api.Rat) api.Rat {
	return api.Rat{Num: api.Int{Minus: a.Num.Minus, Size: roomy(a.Num.Size)}, Den: roomy(a.Den)}
}

func roomySpan(a api.Span) api.Span {
	a.Lo.Man.Size, a.Hi.Man.Size = roomy(a.Lo.Man.Size), roomy(a.Hi.Man.Size)
	return a
}

// roomyList: a list of such, with spare room behind it, filled too.
func roomyList[T any](list []T, room func(T) T, more T) []T {
	var all []T
	for _, x := range list {
		all = append(all, room(x))
	}
	all = append(all, room(more), room(more))
	return all[:len(list)]
}

// roomyTable: rows of such, with spare room behind them.
func roomyTable[T any](table [][]T, room func(T) T, more T) [][]T {
	return roomyList(table, func(row []T) []T { return roomyList(row, room, more) }, []T{more})
}

// sets: what is given to all calls, each time new.
func sets() []given {
	d := dice(1234)
	tables := [][][]api.Rat{nil, {{}, {}}, {list(0, 1), list(-1, 6)}, {list(3)}, {list(1, 2), list(3)}, ratTable(d.rats(2, 2, 90)), ratTable(d.rats(3, 2, 90)), ratTable(d.rats(2, 3, 90))}
	spans := [][][]api.Span{nil, {{}, {}}, d.spans(2, 2, 60), {{of(0, 0, 0), of(1, 1, 0)}, {of(-1, 0, 0), of(-7, 5, 3)}}, d.spans(2, 3, 60), {{of(-1, 2, 0)}, {of(1, 3, 0), of(1, 1, 0)}}}
	var all []given
	for i, a := range tables {
		for j, b := range tables {
			for k, s := range spans {
				n := int64(i + j + k)
				all = append(all, given{
					A: roomyTable(a, roomyRat, ratio.Of(7, 9)), B: roomyTable(b, roomyRat, ratio.Of(7, 9)),
					S: roomyTable(s, roomySpan, of(3, 7, 0)), T: roomyTable(spans[(i+k)%len(spans)], roomySpan, of(3, 7, 0)),
					X: roomyList(list(n, 1-n), roomyRat, ratio.Of(7, 9)), Y: roomyList([]api.Span{of(-n, 3, 0), of(0, n, -1)}, roomySpan, of(3, 7, 0)),
					By: roomyRat(ratio.Of(n-3, 3)), Size: roomySpan(of(n, n, 0)).Lo, N: i, M: j, Bits: []int{1, 2, 8, dyad.MaxBits}[n%4],
				})
			}
		}
	}
	return all
}

func TestArgumentsStayAsTheyAre(t *testing.T) {
	for name, call := range calls() {
		for _, g := range sets() {
			was := full(reflect.ValueOf(g))
			first, e := call(g)
			if full(reflect.ValueOf(g)) != was {
				t.Fatalf("%s of %v changed what it was given", name, g)
			}
			second, again := call(g)
			if e != again || !same(first, second) {
				t.Fatalf("%s of %v: not twice the same", name, g)
			}
		}
	}
}

// What is answered shares no memory with what was handed in, nor with a later
// answer, nor do two lists of it. (A number that is answered as it was handed in
// might share it; here none does.)
func TestAnswersAreNewMemory(t *testing.T) {
	for name, call := range calls() {
		for _, g := range sets() {
			first, _ := call(g)
			second, _ := call(g)
			memory, later := memories(reflect.ValueOf(&first)), memories(reflect.ValueOf(&second))
			if shared(memory, memories(reflect.ValueOf(g))) {
				t.Fatalf("%s of %v: the answer shares memory with that", name, g)
			}
			if shared(memory, later) {
				t.Fatalf("%s of %v: an answer shares memory with a later one", name, g)
			}
			if sharedWithin(memory) {
				t.Fatalf("%s of %v: the answer shares memory with itself", name, g)
			}
		}
	}
}

// wrongRats: what is no ratio, beside some that are.
func wrongRats() []api.Rat {
	sizes := []api.Nat{nil, {1}, {6}, {0}, {0, 0, 5, 0}, sizeOf(ones(maxBits)), make(api.Nat, limbs.MaxLimbs+1), sizeOf(ones(1 << 20))}
	var all []api.Rat
	for i, num := range sizes {
		for _, den := range sizes {
			all = append(all, api.Rat{Num: api.Int{Minus: i%2 == 0, Size: num}, Den: den})
		}
	}
	return all
}

// wrongSpans: what is no span, beside some that are.
func wrongSpans() []api.Span {
	var ends []api.Dyad
	for _, r := range wrongRats() {
		for _, exp := range []int{0, -dyad.MaxExp, math.MaxInt, math.MinInt} {
			ends = append(ends, api.Dyad{Man: r.Num, Exp: exp})
		}
	}
	all := []api.Span{of(3, -3, 0), of(1, 2, 0), span.Even(number(big.NewInt(1), dyad.MaxExp))}
	for i := range 64 {
		all = append(all, api.Span{Lo: ends[(29*i)%len(ends)], Hi: ends[(7*i+3)%len(ends)]})
	}
	return all
}

// rows: a table of so many rows and columns of what stands in a list.
func rows[T any](list []T, rows, cols, from int) [][]T {
	all := make([][]T, rows)
	for i := range all {
		for j := range cols {
			all[i] = append(all[i], list[(from+7*i+3*j)%len(list)])
		}
	}
	return all
}

// All calls end at all arguments, and none panics; and an error stands alone.
func TestWrongArguments(t *testing.T) {
	rats, spans := wrongRats(), wrongSpans()
	counts := []int{math.MinInt, -1, 0, 1, 5, 16, 17, math.MaxInt}
	for i := range 3 * len(rats) {
		n, m := i%4, i/4%4
		g := given{
			A: rows(rats, n, m, i), B: rows(rats, m, n, 5*i), S: rows(spans, n, m, i), T: rows(spans, m, n, 11*i), X: rats[i%len(rats):][:min(m, len(rats)-i%len(rats))], Y: spans[:m],
			By: rats[(17*i)%len(rats)], Size: spans[i%len(spans)].Lo, N: counts[i%len(counts)], M: counts[(i/3)%len(counts)], Bits: []int{math.MinInt, 1, 2, 64, math.MaxInt}[i%5],
		}
		callAll(t, g)
		g.B, g.T = rows(rats, n, m, 5*i), rows(spans, n, m, 11*i)
		callAll(t, g)
		g.A, g.S = append(g.A, nil, rats[:2]), append(g.S, nil, spans[:3])
		callAll(t, g)
	}
	callAll(t, given{})
}

func callAll(t *testing.T, g given) {
	t.Helper()
	for name, call := range calls() {
		got, e := call(g)
		if e != api.OK && name != "Check" {
			refuse(t, name, got, e, e)
		}
	}
}
