package zono

import (
	"slices"

	"girdle/api"
	"girdle/dyad"
	"girdle/span"
)

// sum is what numbers come to together, exactly, so that all is rounded but once,
// at the end. The first error that it meets stays.
type sum struct {
	value api.Dyad
	code  api.Errno
}

// refuse keeps an error, if it is the first one.
func (s *sum) refuse(e api.Errno) {
	if s.code == api.OK {
		s.code = e
	}
}

// add adds a number. To 0 nothing is added, nor 0 to anything: a very great number
// would have no room beside it.
func (s *sum) add(a api.Dyad) {
	switch {
	case s.code != api.OK || dyad.Sign(a) == 0:
	case dyad.Sign(s.value) == 0:
		s.value = a
	default:
		s.value, s.code = dyad.Add(s.value, a)
	}
}

// addSize adds a number's size.
func (s *sum) addSize(a api.Dyad) {
	s.add(dyad.Abs(a))
}

// addTimes adds a number times another one.
func (s *sum) addTimes(a, b api.Dyad) {
	product, e := dyad.Mul(a, b)
	s.refuse(e)
	s.add(product)
}

// addSizes adds a number's size times another one's.
func (s *sum) addSizes(a, b api.Dyad) {
	s.addTimes(dyad.Abs(a), dyad.Abs(b))
}

// join adds what others come to.
func (s *sum) join(t sum) {
	s.refuse(t.code)
	s.add(t.value)
}

// joinSize adds the size of what others come to.
func (s *sum) joinSize(t sum) {
	s.refuse(t.code)
	s.addSize(t.value)
}

// roundedUp gives what all comes to, or a bit more; layer 5's errors.
func (s sum) roundedUp(bits int) (api.Dyad, api.Errno) {
	if s.code != api.OK {
		return api.Dyad{}, s.code
	}
	return dyad.Round(s.value, bits, true)
}

// product gives a number times another one.
func product(a, b api.Dyad) sum {
	var s sum
	s.addTimes(a, b)
	return s
}

// place is one place of a set that is made: with how many bits it is reckoned, and
// how far it goes beside its ways, what is rounded among it.
type place struct {
	bits int
	off  sum
}

// put rounds what numbers come to. The middle of the two numbers of so many bits
// about it stands for it, so that a set goes no further there than they do.
func (p *place) put(s sum) api.Dyad {
	held, e := span.Round(api.Span{Lo: s.value, Hi: s.value}, p.bits)
	p.off.refuse(s.code)
	p.off.refuse(e)
	return p.putMiddle(held, s.value)
}

// putRatio rounds a ratio likewise.
func (p *place) putRatio(r api.Rat) api.Dyad {
	held, e := span.Near(r, p.bits)
	p.off.refuse(e)
	return p.putMiddle(held, held.Hi)
}

// putMiddle gives a span's middle, and keeps how far that is off from a number.
func (p *place) putMiddle(held api.Span, from api.Dyad) api.Dyad {
	center, e := middle(held)
	p.off.refuse(e)
	off, e := dyad.Sub(from, center)
	p.off.refuse(e)
	p.off.addSize(off)
	return center
}

// filled gives a set, once each place of it is made, and its Round beside that; the
// first error of the first place that has one.
func filled(z Zono, bits int, do func(p *place, i int)) (Zono, api.Errno) {
	for i := range z.Round {
		p := place{bits: bits}
		do(&p, i)
		var e api.Errno
		z.Round[i], e = p.off.roundedUp(bits)
		if e != api.OK {
			return Zono{}, e
		}
	}
	return z, api.OK
}

// middle gives a span's middle; layer 6's errors. (Of one number that is the number,
// in its memory: twice that may be too great.)
func middle(a api.Span) (api.Dyad, api.Errno) {
	if dyad.Compare(a.Lo, a.Hi) == 0 {
		return a.Lo, api.OK
	}
	return span.Middle(a)
}

// copiedAll is lists in memory of their own.
func copiedAll(lists [][]api.Dyad) [][]api.Dyad {
	own := make([][]api.Dyad, len(lists))
	for i, list := range lists {
		own[i] = copied(list)
	}
	return own
}

// copied is a list in memory of its own, its numbers' too.
func copied(list []api.Dyad) []api.Dyad {
	own := slices.Clone(list)
	for i, x := range own {
		own[i].Man.Size = slices.Clone(x.Man.Size)
	}
	return own
}
