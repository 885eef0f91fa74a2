package zono_test

import (
	"fmt"
	"math/big"
	"testing"

	"girdle/api"
	"girdle/dyad"
	"girdle/model"
	"girdle/ratio"
	"girdle/span"
	"girdle/zono"
)

func TestOf(t *testing.T) {
	d := dice(5)
	for i := range 40 {
		m := d.model(i%5, i/5)
		for _, bits := range widths() {
			what := fmt.Sprint("Of of ", m, " to ", bits, " bits")
			z, e := zono.Of(m, bits)
			goes(t, what, z, e, bits, exactOf(m).far)
			if len(z.Gens) != len(m.Gens) {
				t.Errorf("%.200s: %d ways", what, len(z.Gens))
			}
			// A point is held by no more than layer 6's spans of its numbers.
			p, e := zono.Of(model.Zono{Center: m.Center}, bits)
			b, f := zono.Box(p, bits)
			for at, x := range m.Center {
				want, _ := span.Near(x, bits)
				expect(t, what+", the middle alone", b[at], e+f, want)
			}
		}
	}
}

// What has no more bits is told as it is.
func TestOfExactNumbers(t *testing.T) {
	m := model.Zono{Center: []api.Rat{ratio.Of(3, 8), ratio.Of(-5, 1)}, Gens: [][]api.Rat{list(2, 1), {ratio.Of(-1, 2), ratio.Zero()}}}
	z, e := zono.Of(m, 3)
	expect(t, "Of", z, e, zono.Zono{
		Center: []api.Dyad{dyad.Of(3, -3), dyad.Of(-5, 0)}, Gens: [][]api.Dyad{numbers(2, 1), {dyad.Of(-1, -1), {}}}, Round: numbers(0, 0),
	})
	z, e = zono.Of(model.Zono{}, 3)
	expect(t, "Of none", z, e, zono.Zono{})
	z, e = zono.Of(model.Zono{Gens: [][]api.Rat{{}, {}}}, 3)
	if e != api.OK || len(z.Gens) != 2 {
		t.Errorf("Of no places, two ways: %v, error %d", z, e)
	}
}

func TestOfRefuses(t *testing.T) {
	for at := range 3 {
		m := model.Zono{Center: list(1, 2), Gens: [][]api.Rat{list(1, 2), list(1, 2), list(1, 2)}}
		for _, wrong := range [][]api.Rat{nil, list(1), list(1, 2, 3)} {
			m.Gens[at] = wrong
			z, e := zono.Of(m, 1) // ErrShape is named ahead of layer 6's errors
			refuse(t, fmt.Sprint("Of with a way of ", len(wrong)), z, e, api.ErrShape)
		}
		m.Gens[at] = []api.Rat{ratio.Of(1, 2), ratOf(new(big.Rat).SetFrac(big.NewInt(1), ones(maxBits)))}
		z, e := zono.Of(m, 64)
		refuse(t, "Of without room", z, e, api.ErrLimbs)
	}
	z, e := zono.Of(model.Zono{Center: make([]api.Rat, 17)}, 20)
	refuse(t, "Of 17 places", z, e, api.ErrShape)
	z, e = zono.Of(model.Zono{Gens: make([][]api.Rat, zono.MaxGens+1)}, 20)
	refuse(t, "Of too many ways", z, e, api.ErrOrder)
	for _, bits := range wrongWidths() {
		z, e := zono.Of(model.Zono{Center: list(0)}, bits)
		refuse(t, fmt.Sprint("Of to ", bits, " bits"), z, e, api.ErrRange)
	}
}

// turnedBack: the direction in which a list goes as far as what a table makes of it
// goes in another one.
func turnedBack(a [][]*big.Rat, dir []*big.Rat, cols int) []*big.Rat {
	all := zeros(cols)
	for i, row := range a {
		for j, x := range row {
			all[j] = plus(all[j], times(dir[i], x))
		}
	}
	return all
}

// Any table within goes no further; and the set goes as far as the middles of the
// table make its middle and its ways go, and, place by place, as their sizes make its
// Round go (there are no ways more for that), and as the sizes of its numbers, times
// how far they are off.
func TestImage(t *testing.T) {
	d := dice(31)
	for i := range 60 {
		rows, cols := i%4, i/4%4
		a, z := d.table(rows, cols, 40), d.zono(cols, i/16, 40)
		s := exact(z)
		for _, bits := range widths() {
			what := fmt.Sprint("Image by ", a, " of ", z, " to ", bits, " bits")
			got, e := zono.Image(a, z, bits)
			goes(t, what, got, e, bits, func(dir []*big.Rat) *big.Rat { return imageFar(a, s, dir) })
			if len(got.Gens) != len(z.Gens) || len(got.Center) != rows {
				t.Errorf("%.200s: %d ways, %d places", what, len(got.Gens), len(got.Center))
			}
			holdsTables(t, what, &d, a, s, exact(got))
		}
	}
}

// imageFar: how far an image goes in a direction.
func imageFar(a [][]api.Span, s set, dir []*big.Rat) *big.Rat {
	middles, more := make([][]*big.Rat, len(a)), new(big.Rat)
	for i, row := range a {
		for j, x := range row {
			m, w := about(x)
			middles[i] = append(middles[i], m)
			off := plus(times(size(m), s.round[j]), times(w, s.reach(j)))
			more = plus(more, times(size(dir[i]), off))
		}
	}
	n := len(s.center)
	ways := set{center: s.center, ways: s.ways, round: zeros(n)}
	return plus(ways.far(turnedBack(middles, dir, n)), more)
}

// holdsTables: does a set hold what tables within make of another one?
func holdsTables(t *testing.T, what string, d *dice, a [][]api.Span, s, got set) {
	t.Helper()
	for range 4 {
		table := make([][]*big.Rat, len(a))
		for i, row := range a {
			for _, x := range row {
				table[i] = append(table[i], d.within(x))
			}
		}
		for _, dir := range directions(len(a)) {
			if far := s.far(turnedBack(table, dir, len(s.center))); got.far(dir).Cmp(far) < 0 {
				t.Errorf("%.200s: only as far as %s, not %s", what, got.far(dir), far)
				return
			}
		}
	}
}

func TestImageByHand(t *testing.T) {
	z := zono.Zono{Center: numbers(1, 0), Gens: [][]api.Dyad{numbers(2, 1), numbers(0, 1)}, Round: numbers(0, 3)}
	got, e := zono.Image([][]api.Span{spans(0, 1), spans(-3, 0), spans(1, -1)}, z, 40)
	expect(t, "Image by a table that is known", got, e, zono.Zono{Center: numbers(0, -3, 1), Gens: [][]api.Dyad{numbers(1, -6, 1), numbers(1, 0, -1)}, Round: numbers(3, 0, 3)})
	got, e = zono.Image([][]api.Span{{of(-1, 1, 0), of(1, 3, 0)}}, z, 40)
	expect(t, "Image by one that isn't", got, e, zono.Zono{Center: numbers(0), Gens: [][]api.Dyad{numbers(2), numbers(2)}, Round: numbers(3 + 2*3 + 5)})
	// 9 is between 8 and 12, and 3 is what it is.
	got, e = zono.Image([][]api.Span{spans(9)}, zono.Zono{Center: numbers(1), Gens: [][]api.Dyad{numbers(-1)}, Round: numbers(0)}, 2)
	expect(t, "Image, rounded", got, e, zono.Zono{Center: numbers(10), Gens: [][]api.Dyad{numbers(-10)}, Round: numbers(2)})
	got, e = zono.Image(nil, z, 40)
	expect(t, "Image by no rows", got, e, zono.Zono{Gens: [][]api.Dyad{{}, {}}})
	got, e = zono.Image([][]api.Span{{}, {}}, zono.Zono{Gens: [][]api.Dyad{{}}}, 40)
	expect(t, "Image of no places", got, e, zono.Zono{Center: numbers(0, 0), Gens: [][]api.Dyad{numbers(0, 0)}, Round: numbers(0, 0)})
}

// What many great numbers come to is as sharp, though it is small.
func TestImageOfWhatCancels(t *testing.T) {
	great := number(power(0), 300)
	z := zono.Zono{Center: []api.Dyad{great, great, dyad.Of(1, 0)}, Gens: [][]api.Dyad{{great, great, dyad.Of(7, -1)}}, Round: numbers(0, 0, 0)}
	got, e := zono.Image([][]api.Span{spans(1, -1, 1)}, z, 8)
	expect(t, "Image", got, e, zono.Zono{Center: numbers(1), Gens: [][]api.Dyad{{dyad.Of(7, -1)}}, Round: numbers(0)})
	far, e := zono.Support(z, spans(1, -1, 1), 8)
	expect(t, "Support", far, e, dyad.Of(9, -1))
}

func TestImageRefuses(t *testing.T) {
	z := some(2, 2)
	for what, a := range map[string][][]api.Span{
		"a row of none":      {spans(1, 1), nil},
		"a row of one":       {spans(1), spans(1, 1)},
		"a row of three":     {spans(1, 1), spans(1, 1), spans(1, 1, 1)},
		"too many rows":      wide(17, 2),
		"rows of one":        wide(2, 1),
		"rows of three":      wide(2, 3),
		"one row of nothing": {{}},
	} {
		got, e := zono.Image(a, z, 1)
		refuse(t, "Image by "+what, got, e, api.ErrShape)
	}
	for what, z := range misshapen() {
		got, e := zono.Image(wide(2, 2), z, 1)
		refuse(t, "Image of "+what, got, e, api.ErrShape)
	}
	for _, bits := range wrongWidths() {
		got, e := zono.Image(wide(2, 2), z, bits)
		refuse(t, fmt.Sprint("Image to ", bits, " bits"), got, e, api.ErrRange)
	}
	if got, e := zono.Image(wide(16, 16), some(16, 1), 20); e != api.OK || len(got.Center) != 16 {
		t.Errorf("Image of 16 places: error %d", e)
	}
}

// wide: a table of 1.
func wide(rows, cols int) [][]api.Span {
	all := make([][]api.Span, rows)
	for i := range all {
		for range cols {
			all[i] = append(all[i], of(1, 1, 0))
		}
	}
	return all
}

// Where layers 5 and 6 have no room, whichever place it is, all is refused.
func TestImageWithoutRoom(t *testing.T) {
	for at := range 2 {
		a := wide(2, 2)
		z := zono.Zono{Center: numbers(2, 2), Gens: [][]api.Dyad{numbers(2, 2)}, Round: numbers(2, 2)}
		a[at][1] = span.Point(top())
		got, e := zono.Image(a, z, 20)
		refuse(t, "Image beyond", got, e, api.ErrRange)
		a[at][1] = api.Span{Lo: number(big.NewInt(1), -dyad.MaxExp), Hi: dyad.Of(1, 0)}
		got, e = zono.Image(a, z, 20)
		refuse(t, "Image by a table without a middle", got, e, api.ErrLimbs)
		a[at][1] = of(1, 2, 0)
		for i, list := range [][]api.Dyad{z.Center, z.Gens[0], z.Round} {
			list[0], list[1] = number(big.NewInt(1), -dyad.MaxExp), dyad.Of(3, 0)
			got, e = zono.Image(a, z, 20)
			refuse(t, fmt.Sprint("Image of numbers that are far apart in list ", i), got, e, api.ErrLimbs)
			list[0], list[1] = dyad.Of(2, 0), dyad.Of(2, 0)
		}
	}
}

// Ways that are far apart have room by themselves, but their sizes haven't together:
// these are asked for by a table that isn't known alone.
func TestImageOfWaysFarApart(t *testing.T) {
	z := zono.Zono{Center: numbers(1), Gens: [][]api.Dyad{numbers(3), {number(big.NewInt(1), -dyad.MaxExp)}}, Round: numbers(0)}
	got, e := zono.Image([][]api.Span{spans(2)}, z, 20)
	expect(t, "Image by a table that is known", got, e, zono.Zono{Center: numbers(2), Gens: [][]api.Dyad{numbers(6), {number(big.NewInt(1), 1-dyad.MaxExp)}}, Round: numbers(0)})
	got, e = zono.Image([][]api.Span{{of(2, 3, 0)}}, z, 20)
	refuse(t, "Image by one that isn't", got, e, api.ErrLimbs)
}

// The greatest numbers have room beside nothing.
func TestGreatestNumbers(t *testing.T) {
	z := zono.Zono{Center: []api.Dyad{top(), {}}, Gens: [][]api.Dyad{{top(), {}}, numbers(0, 0)}, Round: []api.Dyad{{}, top()}}
	for at := range 2 {
		sets := []zono.Zono{some(2, 0), some(2, 0)}
		sets[at] = z
		got, e := zono.Add(sets[0], sets[1], 20)
		expect(t, "Add", got, e, z)
	}
	got, e := zono.Wider(z, api.Dyad{}, 20)
	expect(t, "Wider", got, e, z)
	got, e = zono.Image([][]api.Span{spans(1, 0), spans(0, 1)}, z, 20)
	expect(t, "Image", got, e, z)
	far, e := zono.Support(z, spans(0, 1), 20)
	expect(t, "Support", far, e, top())
}

func TestAdd(t *testing.T) {
	d := dice(63)
	for i := range 60 {
		a, b := d.zono(i%5, i%3, 60), d.zono(i%5, i%4, 60)
		for _, bits := range widths() {
			what := fmt.Sprint("Add of ", a, " and ", b, " to ", bits, " bits")
			got, e := zono.Add(a, b, bits)
			goes(t, what, got, e, bits, func(dir []*big.Rat) *big.Rat { return plus(exact(a).far(dir), exact(b).far(dir)) })
			expect(t, what+", ways", got.Gens, e, append(append([][]api.Dyad{}, a.Gens...), b.Gens...))
		}
	}
	a := zono.Zono{Center: numbers(1, 2), Gens: [][]api.Dyad{numbers(1, -1)}, Round: numbers(0, 5)}
	b := zono.Zono{Center: numbers(-2, 5), Gens: [][]api.Dyad{numbers(3, 3)}, Round: numbers(1, 2)}
	got, e := zono.Add(a, b, 40)
	expect(t, "Add", got, e, zono.Zono{Center: numbers(-1, 7), Gens: [][]api.Dyad{numbers(1, -1), numbers(3, 3)}, Round: numbers(1, 7)})
	got, e = zono.Add(a, b, 2)
	expect(t, "Add, rounded", got, e, zono.Zono{Center: numbers(-1, 7), Gens: [][]api.Dyad{numbers(1, -1), numbers(3, 3)}, Round: numbers(1, 8)})
	got, e = zono.Add(zono.Zono{Center: numbers(8), Round: numbers(0)}, zono.Zono{Center: numbers(1), Round: numbers(0)}, 2)
	expect(t, "Add of a middle between two numbers", got, e, zono.Zono{Center: numbers(10), Round: numbers(1)})
	got, e = zono.Add(zono.Zono{}, zono.Zono{}, 2)
	expect(t, "Add of none", got, e, zono.Zono{})
}

func TestAddRefuses(t *testing.T) {
	for many := range 4 {
		for others := range 4 {
			if got, e := zono.Add(some(many, 1), some(others, 1), 1); many != others {
				refuse(t, fmt.Sprint("Add of ", many, " and ", others, " places"), got, e, api.ErrShape)
			}
		}
	}
	for what, z := range misshapen() {
		got, e := zono.Add(z, some(2, 1), 1)
		refuse(t, "Add of "+what, got, e, api.ErrShape)
		got, e = zono.Add(some(2, 1), z, 1)
		refuse(t, "Add with "+what, got, e, api.ErrShape)
		// Too many ways are named ahead of that.
		got, e = zono.Add(z, some(2, zono.MaxGens), 1)
		refuse(t, "Add of too many ways and "+what, got, e, zonoError(len(z.Gens)))
	}
	for _, x := range []struct{ a, b int }{{zono.MaxGens, 0}, {0, zono.MaxGens}, {4000, 96}} {
		got, e := zono.Add(some(1, x.a), some(1, x.b), 20)
		if e != api.OK || len(got.Gens) != zono.MaxGens {
			t.Errorf("Add of %d and %d ways: error %d", x.a, x.b, e)
		}
		got, e = zono.Add(some(1, x.a+1), some(1, x.b), 1)
		refuse(t, "Add of one too many", got, e, api.ErrOrder)
		got, e = zono.Add(some(1, x.a), some(1, x.b+1), 1)
		refuse(t, "Add of one too many", got, e, api.ErrOrder)
	}
	for _, bits := range wrongWidths() {
		got, e := zono.Add(some(1, 0), some(1, 0), bits)
		refuse(t, fmt.Sprint("Add to ", bits, " bits"), got, e, api.ErrRange)
	}
	for at := range 2 {
		a, b := some(2, 1), some(2, 1)
		a.Center[at], b.Center[at] = top(), top()
		got, e := zono.Add(a, b, 20)
		refuse(t, "Add beyond", got, e, api.ErrRange)
		b.Center[at] = dyad.Of(1, 0)
		got, e = zono.Add(a, b, 20)
		refuse(t, "Add without room", got, e, api.ErrLimbs)
		a.Center[at], a.Round[at], b.Round[at] = dyad.Of(1, 0), top(), dyad.Of(1, 0)
		got, e = zono.Add(a, b, 20)
		refuse(t, "Add of sizes without room", got, e, api.ErrLimbs)
	}
}

// zonoError: what Add answers to so many ways beside MaxGens, of unlike places.
func zonoError(ways int) api.Errno {
	if ways > 0 {
		return api.ErrOrder
	}
	return api.ErrShape
}

func TestWider(t *testing.T) {
	d := dice(93)
	for i := range 60 {
		z, by := d.zono(i%5, i%4, 60), d.number(60)
		for _, bits := range widths() {
			what := fmt.Sprint("Wider of ", z, " by ", by, " to ", bits, " bits")
			got, e := zono.Wider(z, by, bits)
			goes(t, what, got, e, bits, func(dir []*big.Rat) *big.Rat {
				more := new(big.Rat)
				for _, x := range dir {
					more = plus(more, times(size(x), size(value(by))))
				}
				return plus(exact(z).far(dir), more)
			})
			if !same(got.Center, z.Center) || !same(got.Gens, z.Gens) {
				t.Errorf("%.200s: %v", what, got)
			}
		}
	}
	z := zono.Zono{Center: numbers(1, 0), Gens: [][]api.Dyad{numbers(2, 1)}, Round: numbers(0, 3)}
	got, e := zono.Wider(z, dyad.Of(-2, 0), 40)
	expect(t, "Wider", got, e, zono.Zono{Center: numbers(1, 0), Gens: [][]api.Dyad{numbers(2, 1)}, Round: numbers(2, 5)})
	got, e = zono.Wider(z, dyad.Of(2, 0), 2)
	expect(t, "Wider, rounded", got, e, zono.Zono{Center: numbers(1, 0), Gens: [][]api.Dyad{numbers(2, 1)}, Round: numbers(2, 6)})
	got, e = zono.Wider(zono.Zono{}, dyad.Of(2, 0), 2)
	expect(t, "Wider of none", got, e, zono.Zono{})
}

func TestWiderRefuses(t *testing.T) {
	for what, z := range misshapen() {
		got, e := zono.Wider(z, dyad.Of(1, 0), 1)
		refuse(t, "Wider of "+what, got, e, api.ErrShape)
	}
	got, e := zono.Wider(zono.Zono{Center: make([]api.Dyad, 17), Round: make([]api.Dyad, 17)}, dyad.Of(1, 0), 20)
	refuse(t, "Wider of 17 places", got, e, api.ErrShape)
	for _, bits := range wrongWidths() {
		got, e := zono.Wider(some(1, 0), api.Dyad{}, bits)
		refuse(t, fmt.Sprint("Wider to ", bits, " bits"), got, e, api.ErrRange)
	}
	for at := range 2 {
		z := some(2, 1)
		z.Round[at] = top()
		got, e := zono.Wider(z, top(), 20)
		refuse(t, "Wider beyond", got, e, api.ErrRange)
		got, e = zono.Wider(z, dyad.Of(-1, 0), 20)
		refuse(t, "Wider without room", got, e, api.ErrLimbs)
	}
}
