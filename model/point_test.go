package model_test

import (
	"fmt"
	"math/big"
	"testing"

	"girdle/api"
	"girdle/model"
	"girdle/ratio"
)

// point: does Point answer that?
func point(t *testing.T, z model.Zono, by, want []api.Rat, wantError api.Errno) {
	t.Helper()
	got, e := model.Point(z, by)
	if e != wantError || !sameList(got, want) {
		t.Errorf("Point of %.300v by %.100s: %.300s, error %d, not %.300s, error %d", z, told(by), told(got), e, told(want), wantError)
	}
}

func TestPointByHand(t *testing.T) {
	z := model.Zono{Center: list(1, 2), Gens: [][]api.Rat{list(3, 0), list(-1, 4)}}
	point(t, z, list(0, 0), list(1, 2), api.OK)
	point(t, z, list(1, 1), list(3, 6), api.OK)
	point(t, z, list(-1, 1), list(-3, 6), api.OK)
	point(t, z, list(1, -1), list(5, -2), api.OK)
	point(t, z, []api.Rat{ratio.Of(1, 2), ratio.Of(-1, 4)}, []api.Rat{ratio.Of(11, 4), ratio.Of(1, 1)}, api.OK)
	point(t, model.Zono{Center: list(1, 2)}, nil, list(1, 2), api.OK)
	point(t, model.Zono{}, nil, nil, api.OK)
	point(t, model.Zono{Gens: [][]api.Rat{{}, nil}}, list(1, -1), nil, api.OK)
}

func TestPoint(t *testing.T) {
	d := dice(1234)
	for i := range 200 {
		dim, ways := i%17, i/17*3
		middle := make([]*big.Rat, dim)
		for at := range middle {
			middle[at] = d.rat(40)
		}
		z := model.Zono{Center: ratsOf(middle)}
		var by []*big.Rat
		for range ways {
			x := d.unit(30)
			way := make([]*big.Rat, dim)
			for at := range way {
				way[at] = d.rat(20)
				middle[at] = plus(middle[at], times(way[at], x))
			}
			by = append(by, x)
			z.Gens = append(z.Gens, ratsOf(way))
		}
		point(t, z, ratsOf(by), ratsOf(middle), api.OK)
	}
}

func TestPointOfOtherNumbers(t *testing.T) {
	for ways := range 5 {
		z := model.Zono{Center: list(1, 2), Gens: make([][]api.Rat, ways)}
		for i := range z.Gens {
			z.Gens[i] = list(1, 1)
		}
		for many := range 8 {
			if many != ways {
				point(t, z, make([]api.Rat, many), nil, api.ErrShape)
				point(t, z, list(make([]int64, many)...), nil, api.ErrShape)
				// That is named ahead of numbers that are beyond.
				point(t, z, list([]int64{2, 3, 4, 5, 6, 7, 8}[:many]...), nil, api.ErrShape)
			}
		}
	}
}

func TestPointBeyond(t *testing.T) {
	bit := frac(big.NewInt(1), power(maxBits-1))
	for at := range 3 {
		z := model.Zono{Center: list(1), Gens: [][]api.Rat{list(0), list(1), list(2)}}
		for _, x := range []*big.Rat{big.NewRat(2, 1), big.NewRat(-2, 1), big.NewRat(1001, 1000), big.NewRat(-1001, 1000), plus(big.NewRat(1, 1), bit), new(big.Rat).Neg(plus(big.NewRat(1, 1), bit)), whole(ones(maxBits))} {
			by := list(1, 0, -1)
			by[at] = ratOf(x)
			point(t, z, by, nil, api.ErrRange)
		}
		by := list(0, 0, 0)
		inside := plus(big.NewRat(1, 1), new(big.Rat).Neg(bit))
		by[at] = ratOf(inside)
		point(t, z, by, ratsOf([]*big.Rat{plus(big.NewRat(1, 1), times(inside, big.NewRat(int64(at), 1)))}), api.OK)
	}
}

// Numbers are held against 1 ahead of what has no room, or another length.
func TestPointErrors(t *testing.T) {
	most := []api.Rat{ratOf(whole(ones(maxBits)))}
	point(t, model.Zono{Center: most, Gens: [][]api.Rat{list(1)}}, list(1), nil, api.ErrLimbs)
	point(t, model.Zono{Center: most, Gens: [][]api.Rat{list(1)}}, list(-1), []api.Rat{ratOf(whole(new(big.Int).Sub(ones(maxBits), big.NewInt(1))))}, api.OK)
	point(t, model.Zono{Center: list(1), Gens: [][]api.Rat{most, most}}, []api.Rat{ratio.Zero(), ratio.Of(1, 2)}, nil, api.ErrLimbs)
	point(t, model.Zono{Center: most, Gens: [][]api.Rat{list(1), list(1)}}, list(1, 2), nil, api.ErrRange)
	point(t, model.Zono{Center: list(1), Gens: [][]api.Rat{list(1, 2)}}, list(1), nil, api.ErrShape)
	point(t, model.Zono{Center: list(1, 2), Gens: [][]api.Rat{list(1)}}, list(2), nil, api.ErrRange)
	if _, e := model.Point(model.Zono{Center: list(1), Gens: [][]api.Rat{list(1)}}, []api.Rat{{}}); e == api.OK {
		t.Error(fmt.Sprint("Point by what is no number: ", e))
	}
}
