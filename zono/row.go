package zono

import (
	"girdle/api"
	"girdle/dyad"
)

// row is a row of a table of spans, or a direction within spans: their middles, and
// how far off from these their numbers are at most.
type row struct{ middle, off []api.Dyad }

// rowOf gives that of spans; layer 6's errors.
func rowOf(spans []api.Span) (row, api.Errno) {
	r := row{middle: make([]api.Dyad, len(spans)), off: make([]api.Dyad, len(spans))}
	for i, x := range spans {
		var e api.Errno
		r.middle[i], r.off[i], e = about(x)
		if e != api.OK {
			return row{}, e
		}
	}
	return r, api.OK
}

// times gives what the middles, each times a number of a list, come to.
func (r row) times(list []api.Dyad) sum {
	var s sum
	for i, x := range r.middle {
		s.addTimes(x, list[i])
	}
	return s
}

// beside gives how much further any of a set may go than the middles times its
// middle and its ways: by its Round, and by what the row is off.
func (r row) beside(z Zono, reaches []sum) sum {
	var s sum
	for i, off := range r.off {
		s.addSizes(r.middle[i], z.Round[i])
		if dyad.Sign(off) != 0 {
			s.refuse(reaches[i].code)
			s.addTimes(off, reaches[i].value)
		}
	}
	return s
}

// about gives a span's middle, and how far off from that its numbers are at most.
func about(a api.Span) (center, off api.Dyad, e api.Errno) {
	center, e = middle(a)
	if e != api.OK {
		return api.Dyad{}, api.Dyad{}, e
	}
	off, e = dyad.Sub(a.Hi, center)
	return center, off, e
}

// aside gives, place by place, how far a set goes from its middle.
func aside(z Zono) []sum {
	all := make([]sum, len(z.Center))
	for i := range all {
		for _, way := range z.Gens {
			all[i].addSize(way[i])
		}
		all[i].addSize(z.Round[i])
	}
	return all
}

// reaches gives, place by place, the greatest size of a number of any of a set.
func reaches(z Zono) []sum {
	all := aside(z)
	for i, x := range z.Center {
		all[i].addSize(x)
	}
	return all
}
