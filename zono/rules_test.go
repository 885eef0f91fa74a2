package zono_test

import (
	"fmt"
	"math"
	"math/big"
	"reflect"
	"testing"

	"girdle/api"
	"girdle/dyad"
	"girdle/limbs"
	"girdle/model"
	"girdle/ratio"
	"girdle/span"
	"girdle/zono"
)

// given is what calls are given.
type given struct {
	Y, Z   zono.Zono
	M      model.Zono
	Table  [][]api.Span
	Dir    []api.Span
	BySpan api.Span
	By     api.Dyad
	N      int
	Bits   int
}

// call is what a call makes of that.
type call func(g given) (any, api.Errno)

// calls: all of the package's.
func calls() map[string]call {
	return map[string]call{
		"Point":   func(g given) (any, api.Errno) { return zono.Point(g.N), api.OK },
		"Check":   func(g given) (any, api.Errno) { return zono.Zono{}, zono.Check(g.Z, g.N) },
		"Of":      func(g given) (any, api.Errno) { return both(zono.Of(g.M, g.Bits)) },
		"Image":   func(g given) (any, api.Errno) { return both(zono.Image(g.Table, g.Z, g.Bits)) },
		"Add":     func(g given) (any, api.Errno) { return both(zono.Add(g.Y, g.Z, g.Bits)) },
		"Wider":   func(g given) (any, api.Errno) { return both(zono.Wider(g.Z, g.By, g.Bits)) },
		"Times":   func(g given) (any, api.Errno) { return both(zono.Times(g.Z, g.BySpan, g.Bits)) },
		"Support": func(g given) (any, api.Errno) { return both(zono.Support(g.Z, g.Dir, g.Bits)) },
		"Box":     func(g given) (any, api.Errno) { return both(zono.Box(g.Z, g.Bits)) },
		"Reach":   func(g given) (any, api.Errno) { return both(zono.Reach(g.Z, g.Bits)) },
	}
}

// both: an answer, whatever it is, and its error.
func both[T any](got T, e api.Errno) (any, api.Errno) { return got, e }

// room gives lists of all lengths that something holds spare room, all of it filled.
func room[T any](x T) T {
	walk(reflect.ValueOf(&x), func(v reflect.Value) {
		if v.Kind() != reflect.Slice {
			return
		}
		more := reflect.MakeSlice(v.Type(), v.Len(), v.Len()+3)
		reflect.Copy(more, v)
		for i := v.Len(); i < more.Cap(); i++ {
			fill(more.Slice(0, more.Cap()).Index(i))
		}
		v.Set(more)
	})
	return x
}

// fill makes something other than nothing of one place of spare room.
func fill(v reflect.Value) {
	switch x := v.Addr().Interface().(type) {
	case *uint32:
		*x = 77
	case *api.Rat:
		*x = ratio.Of(7, 9)
	case *api.Dyad:
		*x = dyad.Of(7, 9)
	case *api.Span:
		*x = of(7, 9, 0)
	case *[]api.Rat:
		*x = list(7, 9)
	case *[]api.Dyad:
		*x = numbers(7, 9)
	case *[]api.Span:
		*x = spans(7, 9)
	}
}

// walk goes through all that something holds, what it is made of first.
func walk(v reflect.Value, see func(v reflect.Value)) {
	switch v.Kind() {
	case reflect.Pointer:
		walk(v.Elem(), see)
	case reflect.Struct:
		for i := range v.NumField() {
			walk(v.Field(i), see)
		}
	case reflect.Slice:
		for i := range v.Len() {
			walk(v.Index(i), see)
		}
	}
	see(v)
}

// full: something in words, the spare room of its lists too.
func full(v reflect.Value) string {
	switch v.Kind() {
	case reflect.Slice:
		text := fmt.Sprint(v.Len(), ":")
		v = v.Slice(0, v.Cap())
		for i := range v.Len() {
			text += full(v.Index(i)) + ","
		}
		return text
	case reflect.Struct:
		text := ""
		for i := range v.NumField() {
			text += full(v.Field(i)) + ";"
		}
		return text
	}
	return fmt.Sprint(v.Interface())
}

// sets: what is given to all calls, each time new.
func sets() []given {
	var all []given
	for i := range 48 {
		d := dice(1000 + 7*i)
		n, ways := i%4, i/4%3
		g := given{Y: d.zono(n, 2-ways, 40), Z: d.zono(n, ways, 40), M: d.model(n, ways), Table: d.table(i/12, n, 40), Dir: d.row(n, 40), BySpan: d.span(40), By: d.number(40), N: n, Bits: []int{2, 8, 60, 1, dyad.MaxBits}[i%5]}
		if i%7 == 3 {
			g.Z, g.M = zono.Point(n), model.Zono{Center: list(make([]int64, n)...)}
		}
		if i%9 == 5 {
			g.Y, g.Dir = zono.Point(n+1), d.row(n+1, 40)
		}
		all = append(all, room(g))
	}
	return all
}

func TestArgumentsStayAsTheyAre(t *testing.T) {
	for name, call := range calls() {
		for _, g := range sets() {
			was := full(reflect.ValueOf(g))
			first, e := call(g)
			if full(reflect.ValueOf(g)) != was {
				t.Fatalf("%s of %v changed what it was given", name, g)
			}
			second, again := call(g)
			if e != again || !same(first, second) {
				t.Fatalf("%s of %v: not twice the same", name, g)
			}
		}
	}
}

// memory is where a list stands, its spare room too.
type memory struct{ from, to uintptr }

// memories: where all lists stand that something holds, or that stand in these.
func memories(v reflect.Value) []memory {
	var all []memory
	switch v.Kind() {
	case reflect.Interface, reflect.Pointer:
		if !v.IsNil() {
			all = memories(v.Elem())
		}
	case reflect.Struct:
		for i := range v.NumField() {
			all = append(all, memories(v.Field(i))...)
		}
	case reflect.Slice:
		if v.Cap() > 0 {
			from := v.Pointer()
			all = append(all, memory{from, from + uintptr(v.Cap())*v.Type().Elem().Size()})
		}
		v = v.Slice(0, v.Cap())
		for i := range v.Len() {
			all = append(all, memories(v.Index(i))...)
		}
	}
	return all
}

// shared: has one something in common with another one?
func shared(list, others []memory) bool {
	for _, a := range list {
		for _, b := range others {
			if a.from < b.to && b.from < a.to {
				return true
			}
		}
	}
	return false
}

// sharedWithin: have two of one list something in common?
func sharedWithin(list []memory) bool {
	for i := range list {
		if shared(list[:i], list[i:i+1]) {
			return true
		}
	}
	return false
}

// What is answered shares no memory with what was handed in, nor with a later
// answer, nor do two lists of it. (A number or a way that is answered as it was
// handed in might share it; here none does.)
func TestAnswersAreNewMemory(t *testing.T) {
	for name, call := range calls() {
		for _, g := range sets() {
			first, _ := call(g)
			second, _ := call(g)
			own, later := memories(reflect.ValueOf(&first)), memories(reflect.ValueOf(&second))
			if shared(own, memories(reflect.ValueOf(g))) || shared(own, later) || sharedWithin(own) {
				t.Fatalf("%s of %v: the answer shares memory with that, with a later one, or with itself", name, g)
			}
		}
	}
}

// The look for shared memory finds it.
func TestSharedIsFound(t *testing.T) {
	a := room(zono.Zono{Center: numbers(1, 2), Gens: [][]api.Dyad{numbers(3, 4)}, Round: numbers(5, 6)})
	b := zono.Zono{Center: a.Gens[0]}
	if !shared(memories(reflect.ValueOf(a)), memories(reflect.ValueOf(b))) || !sharedWithin(memories(reflect.ValueOf([]zono.Zono{a, b}))) {
		t.Error("shared memory isn't found")
	}
	if sharedWithin(memories(reflect.ValueOf(a))) {
		t.Error("memory is found that isn't shared")
	}
}

// wrongNumbers: what is no number, beside some that are.
func wrongNumbers() []api.Dyad {
	sizes := []api.Nat{nil, {1}, {6}, {0}, {0, 0, 5, 0}, sizeOf(ones(maxBits)), make(api.Nat, limbs.MaxLimbs+1), sizeOf(ones(1 << 20))}
	var all []api.Dyad
	for i, size := range sizes {
		for _, exp := range []int{0, -dyad.MaxExp, dyad.MaxExp, math.MaxInt, math.MinInt} {
			all = append(all, api.Dyad{Man: api.Int{Minus: i%2 == 0, Size: size}, Exp: exp})
		}
	}
	return all
}

// All calls end at all arguments, and none panics; and an error stands alone.
func TestWrongArguments(t *testing.T) {
	wrong := wrongNumbers()
	counts := []int{math.MinInt, -1, 0, 1, 3, 16, 17, math.MaxInt}
	for i := range 6 * len(wrong) {
		at := func(n int) api.Dyad { return wrong[(i*(2*n+1)+7*n)%len(wrong)] }
		row := func(from, n int) []api.Dyad {
			var all []api.Dyad
			for j := range n {
				all = append(all, at(from+j))
			}
			return all
		}
		n := i % 4
		g := given{BySpan: api.Span{Lo: at(1), Hi: at(2)}, By: at(3), N: counts[i%len(counts)], Bits: []int{math.MinInt, 1, 2, 64, math.MaxInt}[i%5]}
		g.Z = zono.Zono{Center: row(4, n), Gens: [][]api.Dyad{row(5, n), row(6, n)}, Round: row(7, n)}
		g.Y = zono.Zono{Center: row(8, n), Gens: [][]api.Dyad{row(9, n)}, Round: row(10, n)}
		for j := range n {
			g.Dir = append(g.Dir, api.Span{Lo: at(11 + j), Hi: at(12 + j)})
			g.M.Center = append(g.M.Center, api.Rat{Num: at(13 + j).Man, Den: at(14 + j).Man.Size})
		}
		g.M.Gens, g.Table = [][]api.Rat{g.M.Center}, [][]api.Span{g.Dir, g.Dir}
		callAll(t, g)
		g.BySpan, g.Dir = span.Even(top()), append(g.Dir, of(3, -3, 0))
		g.Z.Gens, g.Table = append(g.Z.Gens, nil, numbers(1, 2, 3)), append(g.Table, nil)
		callAll(t, g)
	}
	callAll(t, given{})
}

func callAll(t *testing.T, g given) {
	t.Helper()
	for name, call := range calls() {
		got, e := call(g)
		if e != api.OK {
			refuse(t, name, got, e, e)
		}
	}
}

// Very long numbers are soon refused, or reckoned with.
func TestLongNumbers(t *testing.T) {
	long := number(ones(1<<25), 0)
	for i := range 3 {
		z := zono.Zono{Center: numbers(1, 1), Gens: [][]api.Dyad{numbers(1, 1)}, Round: numbers(1, 1)}
		[][]api.Dyad{z.Center, z.Gens[0], z.Round}[i][1] = long
		if e := zono.Check(z, 2); e != api.ErrLimbs {
			t.Errorf("Check: %d", e)
		}
		callAll(t, given{Y: z, Z: z, M: model.Zono{Center: []api.Rat{{Num: long.Man, Den: long.Man.Size}}}, Table: wide(2, 2), Dir: spans(1, 1), BySpan: api.Span{Lo: long, Hi: number(big.NewInt(1), 0)}, By: long, N: 2, Bits: 20})
	}
}
