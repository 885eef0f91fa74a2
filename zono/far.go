package zono

import (
	"girdle/api"
	"girdle/box"
	"girdle/dyad"
)

// Support: no less than how far any of a set goes in any direction within spans;
// ErrShape: these don't fit, or the set's lists are of unlike lengths; layer 6's
// errors.
func Support(z Zono, dir []api.Span, bits int) (api.Dyad, api.Errno) {
	if !fits(z, len(dir)) {
		return api.Dyad{}, api.ErrShape
	}
	r, e := rowOf(dir)
	if e != api.OK {
		return api.Dyad{}, e
	}
	far := r.beside(z, reaches(z))
	far.join(r.times(z.Center))
	for _, way := range z.Gens {
		far.joinSize(r.times(way))
	}
	return far.roundedUp(bits)
}

// Box: the box of a set, no less; ErrShape: its lists are of unlike lengths; layer
// 6's errors.
func Box(z Zono, bits int) (box.Box, api.Errno) {
	if !fits(z, len(z.Center)) {
		return nil, api.ErrShape
	}
	all := make(box.Box, len(z.Center))
	for i, size := range aside(z) {
		var e api.Errno
		all[i], e = around(z.Center[i], size, bits)
		if e != api.OK {
			return nil, e
		}
	}
	return all, api.OK
}

// Reach: no less than the size of any number of any of a set; ErrShape: its lists
// are of unlike lengths; layer 6's errors.
func Reach(z Zono, bits int) (api.Dyad, api.Errno) {
	if !fits(z, len(z.Center)) {
		return api.Dyad{}, api.ErrShape
	}
	var furthest api.Dyad
	for _, size := range reaches(z) {
		far, e := size.roundedUp(bits)
		if e != api.OK {
			return api.Dyad{}, e
		}
		furthest = dyad.Max(furthest, far)
	}
	return furthest, api.OK
}

// around gives the span of all that is no further from a number than what others
// come to, rounded.
func around(center api.Dyad, size sum, bits int) (api.Span, api.Errno) {
	lo, e := end(dyad.Neg(center), size, bits)
	if e != api.OK {
		return api.Span{}, e
	}
	hi, e := end(center, size, bits)
	if e != api.OK {
		return api.Span{}, e
	}
	return api.Span{Lo: dyad.Neg(lo), Hi: hi}, api.OK
}

// end gives a number, and what others come to, together, rounded upwards.
func end(center api.Dyad, size sum, bits int) (api.Dyad, api.Errno) {
	size.add(center)
	return size.roundedUp(bits)
}
