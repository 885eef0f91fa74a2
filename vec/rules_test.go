package vec_test

import (
	"fmt"
	"math"
	"math/big"
	"reflect"
	"slices"
	"testing"

	"girdle/api"
	"girdle/dyad"
	"girdle/limbs"
	"girdle/ratio"
	"girdle/span"
	"girdle/vec"
)

// given is what calls are given.
type given struct {
	A, B   []api.Rat
	S, T   []api.Span
	By     api.Rat
	BySpan api.Span
	N, At  int
	Bits   int
}

// call is what a call makes of that.
type call func(g given) (any, api.Errno)

// calls: all calls but those that answer no number.
func calls() map[string]call {
	return map[string]call{
		"Zero":  func(g given) (any, api.Errno) { return vec.Zero(g.N), api.OK },
		"Unit":  func(g given) (any, api.Errno) { return vec.Unit(g.N, g.At), api.OK },
		"Check": func(g given) (any, api.Errno) { return nil, vec.Check(g.A, g.N) },
		"Add":   func(g given) (any, api.Errno) { return both(vec.Add(g.A, g.B)) },
		"Sub":   func(g given) (any, api.Errno) { return both(vec.Sub(g.A, g.B)) },
		"Scale": func(g given) (any, api.Errno) { return both(vec.Scale(g.A, g.By)) },
		"Dot":   func(g given) (any, api.Errno) { return both(vec.Dot(g.A, g.B)) },
		"Same":  func(g given) (any, api.Errno) { return vec.Same(g.A, g.B), api.OK },
		"Near":  func(g given) (any, api.Errno) { return both(vec.Near(g.A, g.Bits)) },
		"Plus":  func(g given) (any, api.Errno) { return both(vec.Plus(g.S, g.T, g.Bits)) },
		"Times": func(g given) (any, api.Errno) { return both(vec.Times(g.S, g.BySpan, g.Bits)) },
		"Inner": func(g given) (any, api.Errno) { return both(vec.Inner(g.S, g.T, g.Bits)) },
		"Holds": func(g given) (any, api.Errno) { return both(vec.Holds(g.S, g.A)) },
		"Norm":  func(g given) (any, api.Errno) { return vec.Norm(g.S), api.OK },
	}
}

// both: an answer, whatever it is, and its error.
func both[T any](got T, e api.Errno) (any, api.Errno) { return got, e }

// full: something in words, the spare room of its lists too.
func full(v reflect.Value) string {
	switch v.Kind() {
	case reflect.Slice:
		text := fmt.Sprint(v.Len(), ":")
		v = v.Slice(0, v.Cap())
		for i := range v.Len() {
			text += full(v.Index(i)) + ","
		}
		return text
	case reflect.Struct:
		text := ""
		for i := range v.NumField() {
			text += full(v.Field(i)) + ";"
		}
		return text
	}
	return fmt.Sprint(v.Interface())
}

// roomy: digits with spare room behind them, all of it filled.
func roomy(n api.Nat) api.Nat {
	all := append(slices.Clone(n), 77, 88, 99)
	return all[:len(n)]
}

func roomyRat(a api.Rat) api.Rat {
	return api.Rat{Num: api.Int{Minus: a.Num.Minus, Size: roomy(a.Num.Size)}, Den: roomy(a.Den)}
}

func roomySpan(a api.Span) api.Span {
	a.Lo.Man.Size, a.Hi.Man.Size = roomy(a.Lo.Man.Size), roomy(a.Hi.Man.Size)
	return a
}

// roomyList: a list of such, with spare room behind it, filled too.
func roomyList[T any](list []T, room func(T) T, more T) []T {
	var all []T
	for _, x := range list {
		all = append(all, room(x))
	}
	all = append(all, room(more), room(more))
	return all[:len(list)]
}

// sets: what is given to all calls, each time new.
func sets() []given {
	d := dice(1234)
	lists := [][]api.Rat{nil, list(0, 1, -1, 6), list(0, 0, 0, 0), list(3), ratsOf(d.rats(4, 90)), ratsOf(d.rats(4, 90))}
	spans := [][]api.Span{nil, d.spans(4, 60), {of(0, 0, 0), of(1, 1, 0), of(-1, 0, 0), of(-7, 5, 3)}, {of(-1, 2, 0)}}
	var all []given
	for _, a := range lists {
		for _, b := range lists {
			for i, s := range spans {
				for _, bits := range []int{1, 2, 8, dyad.MaxBits} {
					other := spans[(i+len(b))%len(spans)]
					all = append(all, given{
						A: roomyList(a, roomyRat, ratio.Of(7, 9)), B: roomyList(b, roomyRat, ratio.Of(7, 9)),
						S: roomyList(s, roomySpan, of(3, 7, 0)), T: roomyList(other, roomySpan, of(3, 7, 0)),
						By: roomyRat(ratio.Of(int64(i)-1, 3)), BySpan: roomySpan(of(int64(-i), 3, -1)), N: len(a), At: i, Bits: bits,
					})
				}
			}
		}
	}
	return all
}

func TestArgumentsStayAsTheyAre(t *testing.T) {
	for name, call := range calls() {
		for _, g := range sets() {
			was := full(reflect.ValueOf(g))
			first, e := call(g)
			if full(reflect.ValueOf(g)) != was {
				t.Fatalf("%s of %v changed what it was given", name, g)
			}
			second, again := call(g)
			if e != again || !same(first, second) {
				t.Fatalf("%s of %v: not twice the same", name, g)
			}
		}
	}
}

// What is answered shares no memory with what was handed in, nor with a later
// answer, nor do two lists of it. (A number that is answered as it was handed in
// might share it; here none does.)
func TestAnswersAreNewMemory(t *testing.T) {
	for name, call := range calls() {
		for _, g := range sets() {
			first, _ := call(g)
			second, _ := call(g)
			memory, later := memories(reflect.ValueOf(&first)), memories(reflect.ValueOf(&second))
			if shared(memory, memories(reflect.ValueOf(g))) {
				t.Fatalf("%s of %v: the answer shares memory with that", name, g)
			}
			if shared(memory, later) {
				t.Fatalf("%s of %v: an answer shares memory with a later one", name, g)
			}
			if sharedWithin(memory) {
				t.Fatalf("%s of %v: the answer shares memory with itself", name, g)
			}
		}
	}
}

// The look for shared memory finds it.
func TestMemories(t *testing.T) {
	a := roomyList(list(1, 2), roomyRat, ratio.Of(7, 9))
	b := []api.Rat{ratio.Of(3, 1), a[:3][2]}
	if !shared(memories(reflect.ValueOf(a)), memories(reflect.ValueOf(b))) || !sharedWithin(memories(reflect.ValueOf([][]api.Rat{a, b}))) {
		t.Error("shared memory isn't found")
	}
	if sharedWithin(memories(reflect.ValueOf(a))) || shared(memories(reflect.ValueOf(a)), memories(reflect.ValueOf(list(1, 2)))) {
		t.Error("memory is found that isn't shared")
	}
}

// wrongRats: what is no ratio, beside some that are.
func wrongRats() []api.Rat {
	sizes := []api.Nat{nil, {1}, {6}, {0}, {0, 0, 5, 0}, sizeOf(ones(maxBits)), make(api.Nat, limbs.MaxLimbs+1), sizeOf(ones(1 << 22))}
	var all []api.Rat
	for i, num := range sizes {
		for _, den := range sizes {
			all = append(all, api.Rat{Num: api.Int{Minus: i%2 == 0, Size: num}, Den: den})
		}
	}
	return all
}

// wrongSpans: what is no span, beside some that are.
func wrongSpans() []api.Span {
	var ends []api.Dyad
	for _, r := range wrongRats() {
		for _, exp := range []int{0, -dyad.MaxExp, math.MaxInt, math.MinInt} {
			ends = append(ends, api.Dyad{Man: r.Num, Exp: exp})
		}
	}
	all := []api.Span{of(3, -3, 0), of(1, 2, 0), span.Even(number(big.NewInt(1), dyad.MaxExp))}
	for i := range 64 {
		all = append(all, api.Span{Lo: ends[(29*i)%len(ends)], Hi: ends[(7*i+3)%len(ends)]})
	}
	return all
}

// All calls end at all arguments, and none panics; and an error stands alone.
func TestWrongArguments(t *testing.T) {
	rats, spans := wrongRats(), wrongSpans()
	counts := []int{math.MinInt, -1, 0, 1, 5, 16, 17, math.MaxInt}
	for i := range 3 * len(rats) {
		g := given{
			A: rats[i%len(rats):], B: rats[(11*i+5)%len(rats):], S: spans[i%len(spans):], T: spans[(13*i)%len(spans):],
			By: rats[(17*i)%len(rats)], BySpan: spans[(19*i)%len(spans)], N: counts[i%len(counts)], At: counts[(i/3)%len(counts)], Bits: []int{math.MinInt, 1, 2, 64, math.MaxInt}[i%5],
		}
		callAll(t, g)
		g.A, g.B, g.S, g.T = g.A[:1], g.B[:1], g.S[:1], g.T[:1]
		callAll(t, g)
	}
	callAll(t, given{})
}

func callAll(t *testing.T, g given) {
	t.Helper()
	for name, call := range calls() {
		got, e := call(g)
		if e != api.OK && name != "Check" {
			refuse(t, name, got, e, e)
		}
	}
}
