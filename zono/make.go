package zono

import (
	"girdle/api"
	"girdle/dyad"
	"girdle/model"
	"girdle/span"
	"girdle/vec"
)

// Of: a set of ratios, no less, of as many ways; ErrShape: its lists are of unlike
// lengths, or there can't be so many places; ErrOrder: there can't be so many ways;
// layer 6's errors.
func Of(z model.Zono, bits int) (Zono, api.Errno) {
	n := len(z.Center)
	if n > vec.MaxDim || !areWide(z.Gens, n) {
		return Zono{}, api.ErrShape
	}
	if len(z.Gens) > MaxGens {
		return Zono{}, api.ErrOrder
	}
	made := blank(n, len(z.Gens))
	return filled(made, bits, func(p *place, i int) {
		made.Center[i] = p.putRatio(z.Center[i])
		for k, way := range z.Gens {
			made.Gens[k][i] = p.putRatio(way[i])
		}
	})
}

// Image: no less than what any table within spans makes of a set, of as many ways;
// ErrShape: rows are of unlike lengths, or the table doesn't fit; layer 6's errors.
func Image(a [][]api.Span, z Zono, bits int) (Zono, api.Errno) {
	n := len(z.Center)
	if len(a) > vec.MaxDim || !areWide(a, n) || !fits(z, n) {
		return Zono{}, api.ErrShape
	}
	made, far := blank(len(a), len(z.Gens)), reaches(z)
	return filled(made, bits, func(p *place, i int) {
		r, e := rowOf(a[i])
		p.off.refuse(e)
		p.off.join(r.beside(z, far))
		made.Center[i] = p.put(r.times(z.Center))
		for k, way := range z.Gens {
			made.Gens[k][i] = p.put(r.times(way))
		}
	})
}

// Add: no less than all of one and all of the other together, of the ways of both;
// ErrOrder: these are too many; ErrShape: the sets are of unlike places; layer 6's
// errors.
func Add(a, b Zono, bits int) (Zono, api.Errno) {
	if len(a.Gens)+len(b.Gens) > MaxGens {
		return Zono{}, api.ErrOrder
	}
	if n := len(a.Center); !fits(a, n) || !fits(b, n) {
		return Zono{}, api.ErrShape
	}
	made := blank(len(a.Center), 0)
	made.Gens = append(copiedAll(a.Gens), copiedAll(b.Gens)...)
	return filled(made, bits, func(p *place, i int) {
		p.off.addSize(a.Round[i])
		p.off.addSize(b.Round[i])
		var both sum
		both.add(a.Center[i])
		both.add(b.Center[i])
		made.Center[i] = p.put(both)
	})
}

// Wider: a set, each place by a size more; ErrShape: its lists are of unlike lengths;
// layer 6's errors.
func Wider(z Zono, by api.Dyad, bits int) (Zono, api.Errno) {
	n := len(z.Center)
	if !fits(z, n) {
		return Zono{}, api.ErrShape
	}
	made := Zono{Center: copied(z.Center), Gens: copiedAll(z.Gens), Round: make([]api.Dyad, n)}
	return filled(made, bits, func(p *place, i int) {
		p.off.addSize(z.Round[i])
		p.off.addSize(by)
	})
}

// Times: no less than a set, all of it times a number of a span; its middle may go
// one way more; ErrShape: its lists are of unlike lengths; layer 6's errors.
func Times(z Zono, by api.Span, bits int) (Zono, api.Errno) {
	n, ways := len(z.Center), len(z.Gens)
	if !fits(z, n) {
		return Zono{}, api.ErrShape
	}
	center, off, e := about(by)
	if e != api.OK {
		return Zono{}, e
	}
	own, e := hasOwnWay(z, by, center, bits)
	if e != api.OK {
		return Zono{}, e
	}
	far := furthest(by)
	made := blank(n, ways)
	if own {
		made.Gens = append(made.Gens, make([]api.Dyad, n))
	}
	return filled(made, bits, func(p *place, i int) {
		made.Center[i] = p.put(product(center, z.Center[i]))
		for k, way := range z.Gens {
			made.Gens[k][i] = p.put(product(far, way[i]))
		}
		p.off.addSizes(far, z.Round[i])
		if own {
			made.Gens[ways][i] = p.put(product(off, z.Center[i]))
		} else {
			p.off.addSizes(off, z.Center[i])
		}
	})
}

// hasOwnWay tells whether a set's middle, times the numbers of a span, goes a way of
// its own. It goes no further in Round, if it goes along one place alone; and what
// so many bits can't tell may go there.
func hasOwnWay(z Zono, by api.Span, center api.Dyad, bits int) (bool, api.Errno) {
	many := 0
	for _, x := range z.Center {
		if dyad.Sign(x) != 0 {
			many++
		}
	}
	if many < 2 || len(z.Gens) >= MaxGens {
		return false, api.OK
	}
	told, e := span.Round(span.Point(center), bits)
	return !span.Holds(told, by), e
}

// furthest gives the end of a span that has the greater size.
func furthest(a api.Span) api.Dyad {
	if dyad.Less(dyad.Abs(a.Hi), dyad.Abs(a.Lo)) {
		return a.Lo
	}
	return a.Hi
}
