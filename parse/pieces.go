package parse

import (
	"girdle/api"
	"girdle/lex"
	"girdle/model"
	"girdle/ratio"
	"girdle/vec"
)

// take goes on behind a token of that text, if it is the next one; false: it isn't.
// (No two kinds of tokens have texts in common.)
func (r *reader) take(text string) bool {
	if r.rest[0].Text != text {
		return false
	}
	r.rest = r.rest[1:]
	return true
}

// expect goes on behind a token of that text, which must be the next one.
func (r *reader) expect(text string) {
	if !r.take(text) {
		r.refuse(api.ErrForm, r.rest[0])
	}
}

// number reads a number.
func (r *reader) number() api.Rat {
	next := r.rest[0]
	if next.Kind != lex.Number {
		r.refuse(api.ErrForm, next)
		return api.Rat{}
	}
	n, e := ratio.Parse(next.Text)
	if e != api.OK {
		r.refuse(e, next)
		return api.Rat{}
	}
	r.rest = r.rest[1:]
	return n
}

// count reads how many states, or inputs, there are.
func (r *reader) count() int {
	token := r.rest[0]
	a := r.number()
	for n := range vec.MaxDim + 1 {
		if order, e := ratio.Compare(a, ratio.Of(int64(n), 1)); e == api.OK && order == 0 {
			return n
		}
	}
	r.refuse(api.ErrRange, token)
	return 0
}

// row reads numbers, or nothing.
func (r *reader) row() []api.Rat {
	if r.rest[0].Kind != lex.Number {
		return nil
	}
	row := []api.Rat{r.number()}
	for r.take(",") {
		row = append(row, r.number())
	}
	return row
}

// list reads a row between brackets.
func (r *reader) list() []api.Rat {
	r.expect("[")
	row := r.row()
	r.expect("]")
	return row
}

// table reads rows between brackets.
func (r *reader) table() [][]api.Rat {
	r.expect("[")
	rows := [][]api.Rat{r.row()}
	for r.take(";") {
		rows = append(rows, r.row())
	}
	r.expect("]")
	return rows
}

// set reads a middle, and ways.
func (r *reader) set() model.Zono {
	z := model.Zono{Center: r.list()}
	for r.take("+") {
		z.Gens = append(z.Gens, r.list())
	}
	return z
}

// claim reads what is claimed, with that sign ahead of its bound.
func (r *reader) claim(never bool, sign string) model.Claim {
	c := model.Claim{Never: never, Dir: r.list()}
	r.expect(sign)
	c.Bound = r.number()
	r.expect("from")
	c.From = r.number()
	r.expect("to")
	c.To = r.number()
	return c
}
