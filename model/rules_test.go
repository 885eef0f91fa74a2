package model_test

import (
	"fmt"
	"math"
	"reflect"
	"slices"
	"testing"

	"girdle/api"
	"girdle/model"
	"girdle/ratio"
)

// given is what calls are given.
type given struct {
	A, B model.Model
	Z    model.Zono
	By   []api.Rat
}

// call is what a call makes of that.
type call func(g given) (any, api.Errno)

// calls: all of the package's.
func calls() map[string]call {
	return map[string]call{
		"Check": func(g given) (any, api.Errno) { return nil, model.Check(g.A) },
		"Steps": func(g given) (any, api.Errno) { n, e := model.Steps(g.A); return n, e },
		"Same":  func(g given) (any, api.Errno) { return model.Same(g.A, g.B), api.OK },
		"Point": func(g given) (any, api.Errno) { x, e := model.Point(g.Z, g.By); return x, e },
	}
}

// nothing: is it what stands beside an error?
func nothing(got any) bool {
	switch x := got.(type) {
	case int:
		return x == 0
	case []api.Rat:
		return len(x) == 0
	}
	return got == nil
}

// room gives lists of all lengths that something holds spare room, all of it filled.
func room[T any](x T) T {
	walk(reflect.ValueOf(&x), func(v reflect.Value) {
		if v.Kind() != reflect.Slice {
			return
		}
		more := reflect.MakeSlice(v.Type(), v.Len(), v.Len()+3)
		reflect.Copy(more, v)
		for i := v.Len(); i < more.Cap(); i++ {
			fill(more.Slice(0, more.Cap()).Index(i))
		}
		v.Set(more)
	})
	return x
}

// fill makes something other than nothing of one place of spare room.
func fill(v reflect.Value) {
	switch x := v.Addr().Interface().(type) {
	case *uint32:
		*x = 77
	case *api.Rat:
		*x = ratio.Of(7, 9)
	case *[]api.Rat:
		*x = list(7, 8)
	case *model.Claim:
		x.Dir = list(9)
	}
}

// full: something in words, the spare room of its lists too.
func full(v reflect.Value) string {
	switch v.Kind() {
	case reflect.Slice:
		text := fmt.Sprint(v.Len(), ":")
		v = v.Slice(0, v.Cap())
		for i := range v.Len() {
			text += full(v.Index(i)) + ","
		}
		return text
	case reflect.Struct:
		text := ""
		for i := range v.NumField() {
			text += full(v.Field(i)) + ";"
		}
		return text
	}
	return fmt.Sprint(v.Interface())
}

// sets: what is given to all calls, each time new.
func sets() []given {
	models := []model.Model{{}, some(1, 0, 0, 0, 0), some(2, 1, 2, 1, 2), some(3, 2, 0, 3, 1), some(17, 1, 1, 1, 1)}
	bys := [][]api.Rat{nil, list(0), list(1, -1), {ratio.Of(1, 3), ratio.Of(-1, 2)}, list(1, 2), list(0, 0, 0)}
	var all []given
	for _, a := range models {
		for _, b := range models {
			for _, z := range []model.Zono{a.Start, a.Input, b.Start, b.Input} {
				for _, by := range bys {
					all = append(all, room(given{A: a, B: b, Z: z, By: by}))
				}
			}
		}
	}
	return all
}

func TestArgumentsStayAsTheyAre(t *testing.T) {
	for name, call := range calls() {
		for _, g := range sets() {
			was := full(reflect.ValueOf(g))
			first, e := call(g)
			if full(reflect.ValueOf(g)) != was {
				t.Fatalf("%s of %v changed what it was given", name, g)
			}
			second, again := call(g)
			if e != again || fmt.Sprint(first) != fmt.Sprint(second) {
				t.Fatalf("%s of %v: not twice the same", name, g)
			}
		}
	}
}

// memory is where a list stands, its spare room too.
type memory struct{ from, to uintptr }

// memories: where all lists stand that something holds, or that stand in these.
func memories(v reflect.Value) []memory {
	var all []memory
	switch v.Kind() {
	case reflect.Struct:
		for i := range v.NumField() {
			all = append(all, memories(v.Field(i))...)
		}
	case reflect.Slice:
		if v.Cap() > 0 {
			from := v.Pointer()
			all = append(all, memory{from, from + uintptr(v.Cap())*v.Type().Elem().Size()})
		}
		v = v.Slice(0, v.Cap())
		for i := range v.Len() {
			all = append(all, memories(v.Index(i))...)
		}
	}
	return all
}

// shared: has one something in common with another one?
func shared(list, others []memory) bool {
	for _, a := range list {
		for _, b := range others {
			if a.from < b.to && b.from < a.to {
				return true
			}
		}
	}
	return false
}

// What Point answers shares no memory with what was handed in, nor with a later
// answer, nor do two lists of it. (A number that is answered as it was handed in
// might share it; here none does.)
func TestPointsAreNewMemory(t *testing.T) {
	met := 0
	for _, g := range sets() {
		first, e := model.Point(g.Z, g.By)
		second, _ := model.Point(g.Z, g.By)
		if e == api.OK && len(first) > 0 {
			met++
		}
		own := memories(reflect.ValueOf(first))
		if shared(own, memories(reflect.ValueOf(g))) || shared(own, memories(reflect.ValueOf(second))) {
			t.Fatalf("Point of %v by %v shares memory with that, or with a later one", g.Z, g.By)
		}
		for i := range own {
			if shared(own[:i], own[i:i+1]) {
				t.Fatalf("Point of %v by %v shares memory with itself", g.Z, g.By)
			}
		}
	}
	if met < 10 {
		t.Errorf("%d points", met)
	}
}

// The look for shared memory finds it.
func TestSharedIsFound(t *testing.T) {
	a := room(list(1, 2))
	b := []api.Rat{ratio.Of(3, 1), a[:3][2]}
	if !shared(memories(reflect.ValueOf(a)), memories(reflect.ValueOf(b))) || shared(memories(reflect.ValueOf(a)), memories(reflect.ValueOf(list(1, 2)))) {
		t.Error("shared memory isn't told")
	}
}

// All calls end at all arguments, and none panics; and an error stands alone.
func TestWrongArguments(t *testing.T) {
	rats := wrongRats()
	counts := []int{math.MinInt, -1, 0, 1, 5, 16, 17, math.MaxInt}
	for i := range 4 * len(rats) {
		g := given{A: wrongModel(i, rats), B: wrongModel(i+1, rats), By: rats[i%len(rats):]}
		g.Z = []model.Zono{g.A.Start, g.B.Start, {}, {Center: rats[:i%5], Gens: [][]api.Rat{nil, rats[:i%5]}}}[i%4]
		if i%3 > 0 {
			g.By = slices.Repeat(rats[(7*i)%len(rats):][:1], len(g.Z.Gens))
		}
		callAll(t, g)
		g.A.Dim, g.B.Inputs = counts[i%len(counts)], counts[i/3%len(counts)]
		callAll(t, g)
	}
	callAll(t, given{})
}

// wrongModel: one that may be but for some of its numbers.
func wrongModel(i int, rats []api.Rat) model.Model {
	m := some(1+i%3, i%2, i%3, i%4, i%3)
	numbers := held[api.Rat](&m)
	for j := range 1 + i%3 {
		*numbers[(5*i+7*j)%len(numbers)] = rats[(i+11*j)%len(rats)]
	}
	if i%2 == 0 {
		m.Horizon = rats[i/2%len(rats)]
	}
	if i%5 == 0 {
		m.Step = rats[(i/5)%len(rats)]
	}
	return m
}

func callAll(t *testing.T, g given) {
	t.Helper()
	for name, call := range calls() {
		if got, e := call(g); e != api.OK && !nothing(got) {
			t.Errorf("%s: %v beside error %d", name, got, e)
		}
	}
}

// What has far too many digits is soon refused, wherever it is.
func TestLongNumbers(t *testing.T) {
	long := slices.Repeat(api.Nat{1<<32 - 1}, 1<<24)
	made := func() model.Model { return some(1, 1, 1, 1, 1) }
	m := made()
	for i := range held[api.Rat](&m) {
		m = made()
		*held[api.Rat](&m)[i] = api.Rat{Num: api.Int{Size: long}, Den: long}
		checks(t, fmt.Sprint("number ", i), m, api.ErrLimbs)
		callAll(t, given{A: m, B: made(), Z: m.Start, By: list(1)})
		callAll(t, given{A: made(), B: m, Z: m.Input, By: list(1)})
	}
}
