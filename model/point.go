package model

import (
	"slices"

	"girdle/api"
	"girdle/ratio"
	"girdle/vec"
)

// Point: the state (or input) of so many numbers from -1 to 1; ErrShape: there
// aren't as many as ways; ErrRange: one isn't from -1 to 1; layer 7's errors.
func Point(z Zono, by []api.Rat) ([]api.Rat, api.Errno) {
	if len(by) != len(z.Gens) {
		return nil, api.ErrShape
	}
	for _, x := range by {
		if order, e := ratio.Compare(ratio.Abs(x), ratio.Of(1, 1)); e != api.OK || order > 0 {
			return nil, api.ErrRange
		}
	}
	sum := middle(z)
	for i, way := range z.Gens {
		far, e := vec.Scale(way, by[i])
		if e != api.OK {
			return nil, e
		}
		sum, e = vec.Add(sum, far)
		if e != api.OK {
			return nil, e
		}
	}
	return sum, api.OK
}

// middle gives a set's middle in memory of its own, its numbers' too.
func middle(z Zono) []api.Rat {
	own := make([]api.Rat, len(z.Center))
	copy(own, z.Center)
	for i, x := range own {
		own[i].Num.Size = slices.Clone(x.Num.Size)
		own[i].Den = slices.Clone(x.Den)
	}
	return own
}
