package grow_test

import (
	"fmt"
	"math"
	"reflect"
	"slices"
	"testing"

	"girdle/api"
	"girdle/grow"
	"girdle/limbs"
	"girdle/ratio"
)

// calls: all of them, of a number, or of a table of it and a time.
func calls() map[string]func(r, time api.Rat, bits int) (any, api.Errno) {
	list := map[string]func(r, time api.Rat, bits int) (any, api.Errno){
		"Rate": func(r, time api.Rat, _ int) (any, api.Errno) { return both(grow.Rate([][]api.Rat{{r}, {}}, time)) },
	}
	for name, call := range spans() {
		list[name] = func(r, _ api.Rat, bits int) (any, api.Errno) { return both(call(r, bits)) }
	}
	for name, call := range dyads() {
		list[name] = func(r, _ api.Rat, bits int) (any, api.Errno) { return both(call(r, bits)) }
	}
	return list
}

// both: an answer, whatever it is, and its error.
func both[T any](got T, e api.Errno) (any, api.Errno) { return got, e }

// roomy: a ratio whose digits have spare room behind them, all of it filled.
func roomy(a api.Rat) api.Rat {
	room := func(n api.Nat) api.Nat { return append(slices.Clone(n), 77, 88, 99)[:len(n)] }
	return api.Rat{Num: api.Int{Minus: a.Num.Minus, Size: room(a.Num.Size)}, Den: room(a.Den)}
}

// full: a ratio in words, with the spare room of its digits.
func full(a api.Rat) string {
	return fmt.Sprint(a, a.Num.Size[:cap(a.Num.Size)], a.Den[:cap(a.Den)])
}

// What is handed in stays as it is, and what is answered is new memory, each time.
func TestMemory(t *testing.T) {
	for name, call := range calls() {
		for _, x := range [][2]int64{{0, 1}, {1, 1}, {1, 3}, {32, 1}, {33, 1}, {-1, 7}} {
			for _, bits := range []int{7, 8, 90} {
				r, time := roomy(ratio.Of(x[0], x[1])), roomy(ratio.Of(x[1], 5))
				was := full(r) + full(time)
				first, e := call(r, time, bits)
				second, again := call(r, time, bits)
				if full(r)+full(time) != was {
					t.Errorf("%s of %s changed it", name, ratio.Text(r))
				}
				if e != again || !same(first, second) {
					t.Errorf("%s of %s: not twice the same", name, ratio.Text(r))
				}
				memory, later := memories(reflect.ValueOf(&first)), memories(reflect.ValueOf(&second))
				if shared(memory, memories(reflect.ValueOf([]api.Rat{r, time}))) || shared(memory, later) || sharedWithin(memory) {
					t.Errorf("%s of %s: the answer isn't new memory", name, ratio.Text(r))
				}
			}
		}
	}
}

// All calls end at all arguments, and none panics; and an error stands alone.
func TestWrongArguments(t *testing.T) {
	sizes := []api.Nat{nil, {1}, {6}, {0}, {0, 0, 5, 0}, sizeOf(ones(maxBits)), make(api.Nat, limbs.MaxLimbs+1), sizeOf(ones(1 << 20))}
	var all []api.Rat
	for _, minus := range []bool{false, true} {
		for _, num := range sizes {
			for _, den := range sizes {
				all = append(all, api.Rat{Num: api.Int{Minus: minus, Size: num}, Den: den})
			}
		}
	}
	for name, call := range calls() {
		for i, r := range all {
			for _, bits := range []int{math.MinInt, 8, 300, math.MaxInt} {
				got, e := call(r, all[(i*37)%len(all)], bits)
				if e != api.OK && !same(got, nothing(got)) {
					t.Errorf("%s of wrong number %d: error %d and %.100v", name, i, e, got)
				}
			}
		}
	}
}

// nothing: what stands beside an error.
func nothing(got any) any {
	switch got.(type) {
	case api.Span:
		return api.Span{}
	case api.Dyad:
		return api.Dyad{}
	}
	return ratio.Zero()
}
