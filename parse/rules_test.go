package parse_test

import (
	"fmt"
	"math/big"
	"reflect"
	"strings"
	"testing"

	"girdle/api"
	"girdle/lex"
	"girdle/model"
	"girdle/parse"
	"girdle/ratio"
)

// writer writes a model, told one of many ways, and holds what it tells of.
type writer struct {
	dice
	m model.Model
}

// gap: what may stand between two tokens.
func (w *writer) gap() string { return w.pick("", "", " ", " ", "  ", "\t", "\r ", " \t") }

// number: a ratio, and a text of it.
func (w *writer) number(from, to int) (string, api.Rat) {
	num, den := int64(from+w.next(to-from+1)), int64(1+w.next(9))
	num *= den
	if from < 0 {
		num += int64(w.next(7))
	}
	value, known := ratio.Of(num, den), big.NewRat(num, den)
	switch {
	case w.next(3) == 0 && num >= 0 && known.IsInt():
		return "00"[w.next(3):] + known.RatString(), value
	case w.next(3) == 0 && known.IsInt():
		return known.RatString(), value
	case w.next(2) == 0 && 1000000%den == 0:
		return known.FloatString(6 + w.next(3)), value
	}
	return fmt.Sprintf("%d/%d", num, den), value
}

// row: numbers with a , between.
func (w *writer) row(n int) (string, []api.Rat) {
	text, row := "", []api.Rat{}
	for i := range n {
		if i > 0 {
			text += w.gap() + "," + w.gap()
		}
		number, value := w.number(-9, 9)
		text, row = text+number, append(row, value)
	}
	return text, row
}

// list: a row between brackets.
func (w *writer) list(n int) (string, []api.Rat) {
	text, row := w.row(n)
	return "[" + w.gap() + text + w.gap() + "]", row
}

// table: rows between brackets.
func (w *writer) table(n, wide int) (string, [][]api.Rat) {
	text, rows := "", [][]api.Rat{}
	for i := range n {
		if i > 0 {
			text += w.gap() + ";" + w.gap()
		}
		row, values := w.row(wide)
		text, rows = text+row, append(rows, values)
	}
	if wide == 0 && w.next(2) == 0 {
		text = ""
	}
	return "[" + w.gap() + text + w.gap() + "]", rows
}

// set: a middle, and ways.
func (w *writer) set(n int) (string, model.Zono) {
	text, center := w.list(n)
	z := model.Zono{Center: center}
	for range w.next(4) {
		way, values := w.list(n)
		text, z.Gens = text+w.gap()+"+"+w.gap()+way, append(z.Gens, values)
	}
	return text, z
}

// claim: a claim's line.
func (w *writer) claim() string {
	c := model.Claim{Never: w.next(2) == 0}
	word, sign := "always", "<="
	if c.Never {
		word, sign = "never", ">="
	}
	var dir, bound, from, to string
	dir, c.Dir = w.list(w.m.Dim)
	bound, c.Bound = w.number(-9, 9)
	from, c.From = w.number(0, 3)
	to, c.To = w.number(3, 5)
	w.m.Claims = append(w.m.Claims, c)
	return word + w.gap() + dir + w.gap() + sign + w.gap() + bound + w.gap() + "from" + w.gap() + from + w.gap() + "to" + w.gap() + to
}

// text: a model's text.
func (w *writer) text() string {
	w.m = model.Model{Dim: 1 + w.next(4), Inputs: w.next(3)}
	m := &w.m
	lines := make([]string, 9)
	lines[0], lines[1] = fmt.Sprint(m.Dim), fmt.Sprint(m.Inputs)
	lines[2], m.A = w.table(m.Dim, m.Dim)
	lines[3], m.B = w.table(m.Dim, m.Inputs)
	lines[4], m.C = w.list(m.Dim)
	lines[5], m.Start = w.set(m.Dim)
	lines[6], m.Input = w.set(m.Inputs)
	lines[7], m.Horizon = w.number(5, 9)
	lines[8], m.Step = w.number(1, 2)
	for i, word := range words {
		lines[i] = word + w.gap() + lines[i]
	}
	for i := range lines {
		j := i + w.next(len(lines)-i)
		lines[i], lines[j] = lines[j], lines[i]
	}
	for range w.next(4) {
		lines = append(lines, w.claim())
	}
	return strings.Join(lines, w.pick("\n", "\n\n", "\r\n", " # so\n", "\n#\n\n"))
}

// Models told any way are read as what they tell of.
func TestManyModels(t *testing.T) {
	w := &writer{dice: 314159265}
	for range 3000 {
		s := w.text()
		if reads(t, s, w.m); t.Failed() {
			return
		}
	}
}

// memory is where a list stands, its spare room too.
type memory struct{ from, to uintptr }

// memories: where all lists stand that something holds.
func memories(v reflect.Value) []memory {
	var all []memory
	switch v.Kind() {
	case reflect.Struct:
		for i := range v.NumField() {
			all = append(all, memories(v.Field(i))...)
		}
	case reflect.Slice:
		if v.Cap() > 0 && v.Type().Elem().Size() > 0 {
			from := v.Pointer()
			all = append(all, memory{from, from + uintptr(v.Cap())*v.Type().Elem().Size()})
		}
		for i := range v.Len() {
			all = append(all, memories(v.Index(i))...)
		}
	}
	return all
}

// shared: do two stand in the same place?
func shared(list []memory) bool {
	for i, a := range list {
		for _, b := range list[:i] {
			if a.from < b.to && b.from < a.to {
				return true
			}
		}
	}
	return false
}

// What is answered is new memory: no two lists of it, nor of two answers, share any.
func TestNewMemory(t *testing.T) {
	w := &writer{dice: 27182818}
	for range 50 {
		s := w.text()
		first, err := parse.Parse(s)
		second, again := parse.Parse(s)
		if err != nil || again != nil || !model.Same(first, second) {
			t.Fatalf("Parse of %q: not twice the same", s)
		}
		if shared(append(memories(reflect.ValueOf(first)), memories(reflect.ValueOf(second))...)) {
			t.Errorf("Parse of %q: shared memory", s)
		}
	}
	_, first := parse.Parse("what")
	_, second := parse.Parse("what")
	if first == second || told(first) != told(second) {
		t.Error("two Wrongs are one, or not the same")
	}
}

// The look for shared memory finds it.
func TestSharedIsFound(t *testing.T) {
	m := smallModel()
	if shared(memories(reflect.ValueOf(m))) {
		t.Error("none is shared")
	}
	m.B[1] = m.A[1][1:]
	if !shared(memories(reflect.ValueOf(m))) {
		t.Error("shared memory isn't told")
	}
}

// Parse ends, and doesn't panic, at any text: it is a model that may be, or a Wrong
// at one of the text's bytes, or at its end.
func TestAnyText(t *testing.T) {
	d := dice(99991)
	w := &writer{dice: 161803}
	signs := "0123 \n[],;+->=<=/.adimnABc#@"
	for i := range 6000 {
		bytes := make([]byte, i%200)
		for j := range bytes {
			bytes[j] = byte(d.next(256))
		}
		whole(t, string(bytes))
		var s strings.Builder
		for range i % 60 {
			s.WriteString(d.pick("dim ", "inputs ", "A", "B", "c", "start", "input", "horizon ", "step ", "never", "always", " from ", " to ", "\n", "\n", "1", "2 ", "-1/2", "0.5", "1/0", "[", "]", ",", ";", "+", ">=", "<=", "=", "x", "#", "[1]", " [1, 2]", "2\n"))
		}
		whole(t, s.String())
		text := []byte(w.text())
		text[d.next(len(text))] = signs[d.next(len(signs))]
		whole(t, string(text))
		from := d.next(len(text))
		whole(t, string(text[:from])+string(text[from+d.next(len(text)-from):]))
	}
	for _, piece := range []string{"\x00", "[", "A[", "A[1,", "dim 1\n", "c[]\n", "+[", "never", "\n", "7", "never[1]>=1from 0to 1\n", "start[]", "1/0", "# \n"} {
		whole(t, strings.Repeat(piece, lex.MaxText/len(piece)))
		whole(t, strings.Repeat(piece, 1<<22))
		whole(t, "A ["+strings.Repeat(piece, lex.MaxText/len(piece)-3))
		whole(t, "start [1]"+strings.Repeat(piece, lex.MaxText/len(piece)-9))
	}
}

// whole: is Parse's answer one that may be?
func whole(t *testing.T, s string) {
	t.Helper()
	m, err := parse.Parse(s)
	if err == nil {
		if model.Check(m) != api.OK {
			t.Errorf("Parse of %.2000q: %v, which can't be", s, m)
		}
		return
	}
	w, ok := err.(*parse.Wrong)
	if !ok || w == nil || w.At < 0 || w.At > len(s) {
		t.Errorf("Parse of %.2000q: %v", s, err)
		return
	}
	if number, ok := w.Err.(api.Errno); !ok || number == api.OK || !zero(m) {
		t.Errorf("Parse of %.2000q: %v and %v", s, w.Err, m)
	}
	if _, f := lex.Scan(s); f.Code != api.OK && (w.Err != error(f.Code) || w.At != f.At) {
		t.Errorf("Parse of %.2000q: %s, not layer 9's %v", s, told(err), f)
	}
}
