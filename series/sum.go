package series

import (
	"girdle/api"
	"girdle/ratio"
	"girdle/span"
)

// system is a table and a time, halved so often that the norm of both is at most 2
// to the power of 0 less small, and with how many bits it is reckoned.
type system struct {
	table  [][]api.Rat
	time   api.Rat
	halves int
	small  int
	bits   int
}

// systemOf gives that of a table and a time of a norm of at most 2 to the power of
// exp. It is halved more often than it has to be, for each time costs two products
// of tables, but spares terms, till it is about as small as is asked here.
func systemOf(a [][]api.Rat, t api.Rat, exp, bits int) system {
	small := 1
	for 4*small*small < bits {
		small++
	}
	halves := max(exp+small, 0)
	return system{table: a, time: t, halves: halves, small: halves - exp, bits: bits}
}

// growth encloses the exponential and its integral. Beside an error it gives those
// of the greatest time for which there was none.
func (s system) growth() (Growth, api.Errno) {
	p, e := s.begin()
	if e != api.OK {
		return Growth{}, e
	}
	for range s.halves {
		next, e := doubled(p, s.bits)
		if e != api.OK {
			return p, e
		}
		p = next
	}
	return p, api.OK
}

// begin encloses both for the time that is halved as often as it has to be.
func (s system) begin() (Growth, api.Errno) {
	t, b, e := s.halved()
	if e != api.OK {
		return Growth{}, e
	}
	sum, e := s.meanGrowth(b)
	if e != api.OK {
		return Growth{}, e
	}
	// The exponential is 1, and the table times the sum.
	exp, e := timesTable(b, sum, s.bits)
	if e != api.OK {
		return Growth{}, e
	}
	exp, e = plusTable(exp, ones(len(b)), s.bits)
	if e != api.OK {
		return Growth{}, e
	}
	sum, e = scaledTable(sum, t, s.bits)
	if e != api.OK {
		return Growth{}, e
	}
	return Growth{Exp: exp, Sum: sum}, api.OK
}

// halved gives the halved time, and the table times that.
func (s system) halved() (api.Span, [][]api.Span, api.Errno) {
	t, e := near(s.time, s.bits)
	if e != api.OK {
		return api.Span{}, nil, e
	}
	t, e = mulSpans(t, span.Point(power(-s.halves)), s.bits)
	if e != api.OK {
		return api.Span{}, nil, e
	}
	b, e := eachPlace(zeros(len(s.table)), func(i, j int) (api.Span, api.Errno) {
		x, e := near(s.table[i][j], s.bits)
		if e != api.OK {
			return api.Span{}, e
		}
		return mulSpans(x, t, s.bits)
	})
	return t, b, e
}

// meanGrowth encloses 1 + b/2 + b b/6 and so on, the exponential's integral divided
// by the time: from the last term on, and with what is left behind it.
func (s system) meanGrowth(b [][]api.Span) ([][]api.Span, api.Errno) {
	// What a place holds may begin with the term of as many factors as places: that
	// is to be as sharp.
	count, left := terms(s.small, s.bits+s.small*len(b))
	sum := ones(len(b))
	for i := count; i > 1; i-- {
		part, e := near(ratio.Of(1, int64(i)), s.bits)
		if e != api.OK {
			return nil, e
		}
		sum, e = timesTable(b, sum, s.bits)
		if e != api.OK {
			return nil, e
		}
		sum, e = scaledTable(sum, part, s.bits)
		if e != api.OK {
			return nil, e
		}
		sum, e = plusTable(sum, ones(len(b)), s.bits)
		if e != api.OK {
			return nil, e
		}
	}
	return plusTable(sum, remainder(s.table, count, left), s.bits)
}

// doubled encloses both for twice the time, as Twice does.
func doubled(p Growth, bits int) (Growth, api.Errno) {
	exp, e := timesTable(p.Exp, p.Exp, bits)
	if e != api.OK {
		return Growth{}, e
	}
	more, e := timesTable(p.Exp, p.Sum, bits)
	if e != api.OK {
		return Growth{}, e
	}
	sum, e := plusTable(p.Sum, more, bits)
	if e != api.OK {
		return Growth{}, e
	}
	return Growth{Exp: exp, Sum: sum}, api.OK
}
