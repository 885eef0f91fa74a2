package parse

import (
	"girdle/api"
	"girdle/lex"
	"girdle/model"
)

// reader goes through a text's tokens, and gathers the model.
type reader struct {
	rest  []lex.Token    // what isn't read yet; the last one is the End
	fault api.Fault      // the first one
	there map[string]int // how many lines began with a word that begins but one
	model model.Model
}

// onlyOnce gives the words that begin one line each, none of which was there yet.
func onlyOnce() map[string]int {
	return map[string]int{
		"dim": 0, "inputs": 0, "A": 0, "B": 0, "c": 0, "start": 0, "input": 0, "horizon": 0, "step": 0,
	}
}

// refuse keeps a token's fault, if it is the first one. Then nothing more is read:
// whoever reads on finds the End.
func (r *reader) refuse(e api.Errno, token lex.Token) {
	if r.fault == (api.Fault{}) {
		r.fault = api.Fault{Code: e, At: token.At}
	}
	r.rest = r.rest[len(r.rest)-1:]
}

// lines reads all lines.
func (r *reader) lines() {
	for r.rest[0].Kind != lex.End {
		if r.rest[0].Kind == lex.Line {
			r.rest = r.rest[1:]
			continue
		}
		r.line()
	}
}

// line reads a line, up to its end.
func (r *reader) line() {
	word := r.rest[0]
	if word.Kind != lex.Word {
		r.refuse(api.ErrForm, word)
		return
	}
	if times, once := r.there[word.Text]; once {
		if times > 0 {
			r.refuse(api.ErrTwice, word)
			return
		}
		r.there[word.Text]++
	}
	r.rest = r.rest[1:]
	r.behind(word)
	if next := r.rest[0]; next.Kind != lex.Line && next.Kind != lex.End {
		r.refuse(api.ErrForm, next)
	}
}

// behind reads what stands behind a line's word.
func (r *reader) behind(word lex.Token) {
	m := &r.model
	switch word.Text {
	case "dim":
		m.Dim = r.count()
	case "inputs":
		m.Inputs = r.count()
	case "A":
		m.A = r.table()
	case "B":
		m.B = r.table()
	case "c":
		m.C = r.list()
	case "start":
		m.Start = r.set()
	case "input":
		m.Input = r.set()
	case "horizon":
		m.Horizon = r.number()
	case "step":
		m.Step = r.number()
	case "never":
		m.Claims = append(m.Claims, r.claim(true, ">="))
	case "always":
		m.Claims = append(m.Claims, r.claim(false, "<="))
	default:
		r.refuse(api.ErrKind, word)
	}
}

// end tells, at the text's end, whether all is there, and may be.
func (r *reader) end() {
	end := r.rest[0]
	for _, times := range r.there {
		if times == 0 {
			r.refuse(api.ErrMissing, end)
		}
	}
	// Rows without numbers can't be told from one such row as long as there are
	// no signs between.
	if m := &r.model; m.Inputs == 0 && len(m.B) == 1 && len(m.B[0]) == 0 {
		m.B = make([][]api.Rat, m.Dim)
	}
	if e := model.Check(r.model); e != api.OK {
		r.refuse(e, end)
	}
}
