package box_test

import (
	"fmt"
	"math"
	"math/big"
	"reflect"
	"slices"
	"testing"

	"girdle/api"
	"girdle/box"
	"girdle/dyad"
	"girdle/limbs"
	"girdle/ratio"
	"girdle/span"
)

// given is what calls are given.
type given struct {
	A, B box.Box
	X    []api.Rat
	By   []api.Dyad
	N    int
	Bits int
}

// call is what a call makes of that.
type call func(g given) (any, api.Errno)

// calls: all of the package's.
func calls() map[string]call {
	return map[string]call{
		"Of":      func(g given) (any, api.Errno) { return both(box.Of(g.X, g.Bits)) },
		"Check":   func(g given) (any, api.Errno) { return box.Box{}, box.Check(g.A, g.N) },
		"Hull":    func(g given) (any, api.Errno) { return both(box.Hull(g.A, g.B)) },
		"Wider":   func(g given) (any, api.Errno) { return both(box.Wider(g.A, g.By, g.Bits)) },
		"Holds":   func(g given) (any, api.Errno) { return box.Holds(g.A, g.B), api.OK },
		"Has":     func(g given) (any, api.Errno) { return both(box.Has(g.A, g.X)) },
		"Support": func(g given) (any, api.Errno) { return both(box.Support(g.A, g.B, g.Bits)) },
		"Widest":  func(g given) (any, api.Errno) { return both(box.Widest(g.A)) },
	}
}

// both: an answer, whatever it is, and its error.
func both[T any](got T, e api.Errno) (any, api.Errno) { return got, e }

// room gives lists of all lengths that something holds spare room, all of it filled.
func room[T any](x T) T {
	walk(reflect.ValueOf(&x), func(v reflect.Value) {
		if v.Kind() != reflect.Slice {
			return
		}
		more := reflect.MakeSlice(v.Type(), v.Len(), v.Len()+3)
		reflect.Copy(more, v)
		for i := v.Len(); i < more.Cap(); i++ {
			fill(more.Slice(0, more.Cap()).Index(i))
		}
		v.Set(more)
	})
	return x
}

// fill makes something other than nothing of one place of spare room.
func fill(v reflect.Value) {
	switch x := v.Addr().Interface().(type) {
	case *uint32:
		*x = 77
	case *api.Rat:
		*x = ratio.Of(7, 9)
	case *api.Dyad:
		*x = dyad.Of(7, 9)
	case *api.Span:
		*x = of(7, 9, 0)
	}
}

// walk goes through all that something holds, what it is made of first.
func walk(v reflect.Value, see func(v reflect.Value)) {
	switch v.Kind() {
	case reflect.Pointer:
		walk(v.Elem(), see)
	case reflect.Struct:
		for i := range v.NumField() {
			walk(v.Field(i), see)
		}
	case reflect.Slice:
		for i := range v.Len() {
			walk(v.Index(i), see)
		}
	}
	see(v)
}

// full: something in words, the spare room of its lists too.
func full(v reflect.Value) string {
	switch v.Kind() {
	case reflect.Slice:
		text := fmt.Sprint(v.Len(), ":")
		v = v.Slice(0, v.Cap())
		for i := range v.Len() {
			text += full(v.Index(i)) + ","
		}
		return text
	case reflect.Struct:
		text := ""
		for i := range v.NumField() {
			text += full(v.Field(i)) + ";"
		}
		return text
	}
	return fmt.Sprint(v.Interface())
}

// sets: what is given to all calls, each time new.
func sets() []given {
	d := dice(4711)
	boxes := []box.Box{nil, {of(0, 0, 0), of(1, 1, 0), of(-1, 2, 3)}, d.box(3, 60), d.box(3, 90), d.box(1, 60)}
	var all []given
	for _, a := range boxes {
		for _, b := range boxes {
			for i, bits := range []int{1, 2, 8, dyad.MaxBits} {
				all = append(all, room(given{A: slices.Clone(a), B: slices.Clone(b), X: list(make([]int64, len(b))...), By: d.numbers(len(a)+i/3, 40), N: len(a), Bits: bits}))
			}
		}
	}
	return all
}

func TestArgumentsStayAsTheyAre(t *testing.T) {
	for name, call := range calls() {
		for _, g := range sets() {
			was := full(reflect.ValueOf(g))
			first, e := call(g)
			if full(reflect.ValueOf(g)) != was {
				t.Fatalf("%s of %v changed what it was given", name, g)
			}
			second, again := call(g)
			if e != again || !same(first, second) {
				t.Fatalf("%s of %v: not twice the same", name, g)
			}
		}
	}
}

// memory is where a list stands, its spare room too.
type memory struct{ from, to uintptr }

// memories: where all lists stand that something holds, or that stand in these.
func memories(v reflect.Value) []memory {
	var all []memory
	switch v.Kind() {
	case reflect.Interface, reflect.Pointer:
		if !v.IsNil() {
			all = memories(v.Elem())
		}
	case reflect.Struct:
		for i := range v.NumField() {
			all = append(all, memories(v.Field(i))...)
		}
	case reflect.Slice:
		if v.Cap() > 0 {
			from := v.Pointer()
			all = append(all, memory{from, from + uintptr(v.Cap())*v.Type().Elem().Size()})
		}
		v = v.Slice(0, v.Cap())
		for i := range v.Len() {
			all = append(all, memories(v.Index(i))...)
		}
	}
	return all
}

// shared: has one something in common with another one?
func shared(list, others []memory) bool {
	for _, a := range list {
		for _, b := range others {
			if a.from < b.to && b.from < a.to {
				return true
			}
		}
	}
	return false
}

// sharedWithin: have two of one list something in common?
func sharedWithin(list []memory) bool {
	for i := range list {
		if shared(list[:i], list[i:i+1]) {
			return true
		}
	}
	return false
}

// What is answered shares no memory with what was handed in, nor with a later
// answer, nor do two lists of it. (A number or a span that is answered as it was
// handed in might share it; here none does.)
func TestAnswersAreNewMemory(t *testing.T) {
	for name, call := range calls() {
		for _, g := range sets() {
			first, _ := call(g)
			second, _ := call(g)
			own, later := memories(reflect.ValueOf(&first)), memories(reflect.ValueOf(&second))
			if shared(own, memories(reflect.ValueOf(g))) || shared(own, later) || sharedWithin(own) {
				t.Fatalf("%s of %v: the answer shares memory with that, with a later one, or with itself", name, g)
			}
		}
	}
}

// The look for shared memory finds it.
func TestSharedIsFound(t *testing.T) {
	a := room(box.Box{of(1, 2, 0)})
	b := box.Box{of(3, 4, 0), a[:2][1]}
	if !shared(memories(reflect.ValueOf(a)), memories(reflect.ValueOf(b))) || !sharedWithin(memories(reflect.ValueOf([]box.Box{a, b}))) {
		t.Error("shared memory isn't found")
	}
	if sharedWithin(memories(reflect.ValueOf(a))) {
		t.Error("memory is found that isn't shared")
	}
}

// wrongNumbers: what is no number, beside some that are.
func wrongNumbers() []api.Dyad {
	sizes := []api.Nat{nil, {1}, {6}, {0}, {0, 0, 5, 0}, sizeOf(ones(maxBits)), make(api.Nat, limbs.MaxLimbs+1), sizeOf(ones(1 << 20))}
	var all []api.Dyad
	for i, size := range sizes {
		for _, exp := range []int{0, -dyad.MaxExp, dyad.MaxExp, math.MaxInt, math.MinInt} {
			all = append(all, api.Dyad{Man: api.Int{Minus: i%2 == 0, Size: size}, Exp: exp})
		}
	}
	return all
}

// All calls end at all arguments, and none panics; and an error stands alone.
func TestWrongArguments(t *testing.T) {
	numbers := wrongNumbers()
	counts := []int{math.MinInt, -1, 0, 1, 3, 16, 17, math.MaxInt}
	for i := range 6 * len(numbers) {
		at := func(n int) api.Dyad { return numbers[(i*(2*n+1)+7*n)%len(numbers)] }
		g := given{N: counts[i%len(counts)], Bits: []int{math.MinInt, 1, 2, 64, math.MaxInt}[i%5]}
		for n := range i % 4 {
			g.A = append(g.A, api.Span{Lo: at(n), Hi: at(n + 1)})
			g.B = append(g.B, api.Span{Lo: at(n + 2), Hi: at(n + 3)})
			g.By = append(g.By, at(n+4))
			g.X = append(g.X, api.Rat{Num: at(n).Man, Den: at(n + 5).Man.Size})
		}
		callAll(t, g)
		g.A = append(g.A, span.Even(number(big.NewInt(1), dyad.MaxExp)), of(3, -3, 0))
		callAll(t, g)
	}
	callAll(t, given{})
}

func callAll(t *testing.T, g given) {
	t.Helper()
	for name, call := range calls() {
		got, e := call(g)
		if e != api.OK {
			refuse(t, name, got, e, e)
		}
	}
}
