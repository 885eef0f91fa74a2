package zono_test

import (
	"fmt"
	"math"
	"math/big"
	"testing"

	"girdle/api"
	"girdle/dyad"
	"girdle/vec"
	"girdle/zono"
)

func TestPoint(t *testing.T) {
	for n, many := range map[int]int{math.MinInt: 0, -1: 0, 0: 0, 1: 1, 5: 5, vec.MaxDim: vec.MaxDim, vec.MaxDim + 1: vec.MaxDim, math.MaxInt: vec.MaxDim} {
		z := zono.Point(n)
		if len(z.Center) != many || len(z.Gens) != 0 || len(z.Round) != many {
			t.Errorf("Point of %d: %v", n, z)
		}
		for i := range z.Center {
			if !same(z.Center[i], api.Dyad{}) || !same(z.Round[i], api.Dyad{}) {
				t.Errorf("Point of %d: %v", n, z)
			}
		}
		if e := zono.Check(z, many); e != api.OK {
			t.Errorf("Check of Point of %d: %d", n, e)
		}
	}
}

// of n places, with so many ways.
func some(n, ways int) zono.Zono {
	z := zono.Point(n)
	for range ways {
		z.Gens = append(z.Gens, make([]api.Dyad, n))
	}
	return z
}

func TestCheckOfShapes(t *testing.T) {
	for n := range vec.MaxDim + 3 {
		z := zono.Zono{Center: make([]api.Dyad, n), Gens: [][]api.Dyad{make([]api.Dyad, n), make([]api.Dyad, n)}, Round: make([]api.Dyad, n)}
		for _, asked := range []int{math.MinInt, -1, 0, 1, n - 1, n, n + 1, vec.MaxDim, vec.MaxDim + 1, math.MaxInt} {
			want := api.ErrShape
			if asked == n && n <= vec.MaxDim {
				want = api.OK
			}
			if e := zono.Check(z, asked); e != want {
				t.Errorf("Check of %d places, of %d: %d, not %d", n, asked, e, want)
			}
		}
	}
	for what, z := range misshapen() {
		if e := zono.Check(z, 2); e != api.ErrShape {
			t.Errorf("Check of %s: %d", what, e)
		}
	}
	if e := zono.Check(zono.Zono{}, 0); e != api.OK {
		t.Errorf("Check of none: %d", e)
	}
}

// misshapen: sets with a list that isn't of two places.
func misshapen() map[string]zono.Zono {
	all := map[string]zono.Zono{}
	for _, n := range []int{0, 1, 3, 17} {
		wrong := make([]api.Dyad, n)
		for at := range 3 {
			z := some(2, 3)
			z.Gens[at] = wrong
			all[fmt.Sprint("a way of ", n, " at ", at)] = z
		}
		z := some(2, 1)
		z.Center = wrong
		all[fmt.Sprint("a middle of ", n)] = z
		z = some(2, 1)
		z.Round = wrong
		all[fmt.Sprint("sizes of ", n)] = z
	}
	return all
}

func TestCheckOfTooManyWays(t *testing.T) {
	for _, x := range []struct {
		ways int
		want api.Errno
	}{{zono.MaxGens - 1, api.OK}, {zono.MaxGens, api.OK}, {zono.MaxGens + 1, api.ErrOrder}, {1 << 16, api.ErrOrder}} {
		z := some(2, x.ways)
		if e := zono.Check(z, 2); e != x.want {
			t.Errorf("Check of %d ways: %d, not %d", x.ways, e, x.want)
		}
		// Their numbers are told behind that, and their places ahead of it.
		z.Gens[0][0] = api.Dyad{Exp: 1}
		z.Round[1] = dyad.Of(-1, 0)
		if e := zono.Check(z, 2); e == api.OK || x.want != api.OK && e != x.want {
			t.Errorf("Check of %d ways with a wrong number: %d", x.ways, e)
		}
		z.Gens[x.ways-1] = nil
		if e := zono.Check(z, 2); e != api.ErrShape {
			t.Errorf("Check of %d ways, the last one of no places: %d", x.ways, e)
		}
	}
}

func TestCheckOfWrongNumbers(t *testing.T) {
	for _, x := range []struct {
		wrong api.Dyad
		want  api.Errno
	}{
		{api.Dyad{Exp: 1}, api.ErrForm},
		{api.Dyad{Man: api.Int{Size: api.Nat{2}}}, api.ErrForm},
		{api.Dyad{Man: api.Int{Minus: true}}, api.ErrForm},
		{api.Dyad{Man: api.Int{Size: api.Nat{1, 0}}}, api.ErrForm},
		{number(big.NewInt(1), dyad.MaxExp+1), api.ErrRange},
		{number(big.NewInt(1), -dyad.MaxExp-1), api.ErrRange},
		{api.Dyad{Man: api.Int{Size: sizeOf(ones(maxBits + 1))}}, api.ErrLimbs},
		{top(), api.OK},
		{number(ones(maxBits), -dyad.MaxExp), api.OK},
	} {
		for at := range 8 {
			z := some(2, 2)
			for i, list := range [][]api.Dyad{z.Center, z.Gens[0], z.Gens[1], z.Round} {
				if at/2 == i {
					list[at%2] = x.wrong
				}
			}
			if e := zono.Check(z, 2); e != x.want {
				t.Errorf("Check of %v at %d: %d, not %d", x.wrong, at, e, x.want)
			}
			// That a size is below 0 is told behind that.
			z.Round[1-at%2] = dyad.Of(-1, 0)
			if e := zono.Check(z, 2); x.want == api.OK && e != api.ErrRange || x.want != api.OK && e != x.want {
				t.Errorf("Check of %v at %d, and a size below 0: %d", x.wrong, at, e)
			}
		}
	}
}

func TestCheckOfSizesBelowNothing(t *testing.T) {
	for at := range 3 {
		z := some(3, 1)
		z.Center[at], z.Gens[0][at] = dyad.Of(-1, 0), dyad.Of(-1, 0)
		if e := zono.Check(z, 3); e != api.OK {
			t.Errorf("Check of others below 0: %d", e)
		}
		z.Round[at] = number(big.NewInt(-1), -dyad.MaxExp)
		if e := zono.Check(z, 3); e != api.ErrRange {
			t.Errorf("Check of a size below 0: %d", e)
		}
	}
}
