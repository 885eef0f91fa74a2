package zono_test

import (
	"encoding/binary"
	"fmt"
	"math/big"
	"testing"

	"girdle/api"
	"girdle/box"
	"girdle/dyad"
	"girdle/limbs"
	"girdle/model"
	"girdle/ratio"
	"girdle/zono"
)

// maxBits is how many bits a whole number's size has at most.
const maxBits = limbs.MaxLimbs * 32

// sizeOf: the digits of one of the library's numbers.
func sizeOf(n *big.Int) api.Nat {
	a := make(api.Nat, (n.BitLen()+31)/32)
	bytes := n.FillBytes(make([]byte, 4*len(a)))
	for i := range a {
		a[len(a)-1-i] = binary.BigEndian.Uint32(bytes[4*i:])
	}
	return a
}

// ratOf: one of the library's ratios, which are in lowest terms, as one of ours.
func ratOf(r *big.Rat) api.Rat {
	return api.Rat{Num: api.Int{Minus: r.Sign() < 0, Size: sizeOf(r.Num())}, Den: sizeOf(r.Denom())}
}

// bigOf: a ratio of ours as one of the library's.
func bigOf(a api.Rat) *big.Rat {
	return quotient(value(api.Dyad{Man: a.Num}), value(api.Dyad{Man: api.Int{Size: a.Den}}))
}

// list: whole numbers as ratios; numbers: as numbers.
func list(n ...int64) []api.Rat {
	var all []api.Rat
	for _, x := range n {
		all = append(all, ratio.Of(x, 1))
	}
	return all
}

func numbers(n ...int64) []api.Dyad {
	var all []api.Dyad
	for _, x := range n {
		all = append(all, dyad.Of(x, 0))
	}
	return all
}

// zeros: n times nothing.
func zeros(n int) []*big.Rat {
	all := make([]*big.Rat, n)
	for i := range all {
		all[i] = new(big.Rat)
	}
	return all
}

// whole: a number of the library's as a ratio.
func whole(n int64) *big.Rat { return big.NewRat(n, 1) }

// power: 2 to the power of n.
func power(n int) *big.Int { return new(big.Int).Lsh(big.NewInt(1), uint(n)) }

// ones: the greatest number of so many bits.
func ones(n int) *big.Int { return new(big.Int).Sub(power(n), big.NewInt(1)) }

// plus, minus, times, quotient, size, half: as the library reckons.
func plus(a, b *big.Rat) *big.Rat { return new(big.Rat).Add(a, b) }

func minus(a, b *big.Rat) *big.Rat { return new(big.Rat).Sub(a, b) }

func times(a, b *big.Rat) *big.Rat { return new(big.Rat).Mul(a, b) }

func quotient(a, b *big.Rat) *big.Rat { return new(big.Rat).Quo(a, b) }

func size(a *big.Rat) *big.Rat { return new(big.Rat).Abs(a) }

func half(a *big.Rat) *big.Rat { return times(a, big.NewRat(1, 2)) }

// greater: the greater one of two.
func greater(a, b *big.Rat) *big.Rat {
	if a.Cmp(b) < 0 {
		return b
	}
	return a
}

// dot: place by place times each other, and all together.
func dot(a, b []*big.Rat) *big.Rat {
	sum := new(big.Rat)
	for i, x := range a {
		sum = plus(sum, times(x, b[i]))
	}
	return sum
}

// sizes: the sizes of a list's numbers.
func sizes(a []*big.Rat) []*big.Rat {
	var all []*big.Rat
	for _, x := range a {
		all = append(all, size(x))
	}
	return all
}

// number: an odd one of the library's times 2 to the power of exp.
func number(man *big.Int, exp int) api.Dyad {
	return api.Dyad{Man: api.Int{Minus: man.Sign() < 0, Size: sizeOf(man)}, Exp: exp}
}

// top: the greatest power of 2.
func top() api.Dyad { return number(big.NewInt(1), dyad.MaxExp) }

// value: a number as one of the library's ratios.
func value(a api.Dyad) *big.Rat {
	var bytes []byte
	for i := len(a.Man.Size) - 1; i >= 0; i-- {
		bytes = binary.BigEndian.AppendUint32(bytes, a.Man.Size[i])
	}
	man := new(big.Int).SetBytes(bytes)
	if a.Man.Minus {
		man.Neg(man)
	}
	if a.Exp < 0 {
		return new(big.Rat).SetFrac(man, power(-a.Exp))
	}
	return new(big.Rat).SetInt(man.Lsh(man, uint(a.Exp)))
}

// values: a list of them.
func values(list []api.Dyad) []*big.Rat {
	var all []*big.Rat
	for _, a := range list {
		all = append(all, value(a))
	}
	return all
}

// near: a ratio rounded to so many bits.
func near(r *big.Rat, bits int, up bool) api.Dyad {
	a, _ := dyad.Near(ratOf(r), bits, up)
	return a
}

// of: from one small number to another one, times 2 to the power of exp.
func of(lo, hi int64, exp int) api.Span {
	return api.Span{Lo: dyad.Of(lo, exp), Hi: dyad.Of(hi, exp)}
}

// spans: small numbers, each alone.
func spans(n ...int64) []api.Span {
	var all []api.Span
	for _, x := range n {
		all = append(all, of(x, x, 0))
	}
	return all
}

// about: a span's middle, and how far its ends are from it.
func about(a api.Span) (*big.Rat, *big.Rat) {
	lo, hi := value(a.Lo), value(a.Hi)
	return half(plus(lo, hi)), half(minus(hi, lo))
}

// set is a set in the library's ratios.
type set struct {
	center []*big.Rat
	ways   [][]*big.Rat
	round  []*big.Rat
}

// exact: a set as it is.
func exact(z zono.Zono) set {
	s := set{center: values(z.Center), round: values(z.Round)}
	for _, way := range z.Gens {
		s.ways = append(s.ways, values(way))
	}
	return s
}

// exactOf: a model's set as it is.
func exactOf(z model.Zono) set {
	row := func(list []api.Rat) []*big.Rat {
		var all []*big.Rat
		for _, a := range list {
			all = append(all, bigOf(a))
		}
		return all
	}
	s := set{center: row(z.Center), round: zeros(len(z.Center))}
	for _, way := range z.Gens {
		s.ways = append(s.ways, row(way))
	}
	return s
}

// aside: how far a set goes in a direction from its middle.
func (s set) aside(dir []*big.Rat) *big.Rat {
	sum := dot(sizes(dir), s.round)
	for _, way := range s.ways {
		sum = plus(sum, size(dot(dir, way)))
	}
	return sum
}

// far: how far a set goes in a direction.
func (s set) far(dir []*big.Rat) *big.Rat { return plus(dot(dir, s.center), s.aside(dir)) }

// reach: the greatest size of a number of any of a set, at one place.
func (s set) reach(at int) *big.Rat {
	dir := zeros(len(s.center))
	dir[at] = whole(1)
	return plus(size(s.center[at]), s.aside(dir))
}

// directions: corners, sides, and some that look thrown.
func directions(n int) [][]*big.Rat {
	var all [][]*big.Rat
	d := dice(2 + 3*n)
	for i := range 40 {
		dir := zeros(n)
		for at := range dir {
			switch i % 3 {
			case 0:
				dir[at] = whole(int64(d.next(3) - 1))
			case 1:
				dir[at] = big.NewRat(int64(d.next(201)-100), 64)
			}
		}
		if i%3 == 2 && n > 0 {
			dir[i/3%n] = whole(int64(i%2*2 - 1))
		}
		all = append(all, dir)
	}
	return all
}

// untold: so much more can't be told in a direction with so many bits: a few of the
// last of them, place by place.
func untold(s set, dir []*big.Rat, bits int) *big.Rat {
	sum := new(big.Rat)
	for at, x := range dir {
		sum = plus(sum, times(size(x), s.reach(at)))
	}
	return quotient(sum, new(big.Rat).SetFrac(power(bits), big.NewInt(4)))
}

// goes: does a set go as far as asked in all directions, and no further than so many
// bits can tell?
func goes(t *testing.T, what string, z zono.Zono, e api.Errno, bits int, far func(dir []*big.Rat) *big.Rat) {
	t.Helper()
	if e != api.OK {
		t.Errorf("%.300s: error %d", what, e)
		return
	}
	if e := zono.Check(z, len(z.Center)); e != api.OK {
		t.Errorf("%.300s: what can't be, error %d", what, e)
	}
	s := exact(z)
	for _, dir := range directions(len(z.Center)) {
		got, want := s.far(dir), far(dir)
		if got.Cmp(want) < 0 {
			t.Errorf("%.300s: in %v only as far as %s, not %s", what, dir, got.FloatString(9), want.FloatString(9))
			return
		}
		if most := plus(want, untold(s, dir, bits)); got.Cmp(most) > 0 {
			t.Errorf("%.300s: in %v as far as %s, not %s", what, dir, got.FloatString(9), want.FloatString(9))
			return
		}
	}
}

// same: are both told the same way? An empty list may be nil or not.
func same(a, b any) bool {
	return fmt.Sprint(a) == fmt.Sprint(b)
}

// expect: is the answer what is asked, beside no error?
func expect(t *testing.T, what string, got any, e api.Errno, want any) {
	t.Helper()
	if e != api.OK || !same(got, want) {
		t.Errorf("%.300s: %.300v, error %d, not %.300v", what, got, e, want)
	}
}

// refuse: is the answer that error, and nothing beside it?
func refuse(t *testing.T, what string, got any, e, want api.Errno) {
	t.Helper()
	if e != want || !nothing(got) {
		t.Errorf("%.200s: error %d and %.200v, not error %d and nothing", what, e, got, want)
	}
}

// nothing: is it what stands beside an error: none, 0?
func nothing(got any) bool {
	switch x := got.(type) {
	case zono.Zono:
		return len(x.Center)+len(x.Gens)+len(x.Round) == 0
	case box.Box:
		return len(x) == 0
	case api.Dyad:
		return same(x, api.Dyad{})
	}
	return false
}

// dice gives numbers that look thrown, the same ones at each run.
type dice uint64

// next: a number below n.
func (d *dice) next(n int) int {
	*d ^= *d << 13
	*d ^= *d >> 7
	*d ^= *d << 17
	return int(uint64(*d) >> 1 % uint64(n))
}

// number: one of no more than so many bits, below 0 as often as above; at times 0.
func (d *dice) number(bits int) api.Dyad {
	man := new(big.Int)
	for range d.next(bits + 1) {
		man.Lsh(man, 1)
		man.Or(man, big.NewInt(int64(d.next(2))))
	}
	a, e := dyad.Make(api.Int{Minus: man.Sign() > 0 && d.next(2) == 0, Size: sizeOf(man)}, -d.next(bits))
	if e != api.OK {
		panic("a number that can't be")
	}
	return a
}

// numbers: n of them.
func (d *dice) numbers(n, bits int) []api.Dyad {
	var all []api.Dyad
	for range n {
		all = append(all, d.number(bits))
	}
	return all
}

// zono: a set of so many places and ways.
func (d *dice) zono(n, ways, bits int) zono.Zono {
	z := zono.Zono{Center: d.numbers(n, bits), Round: d.numbers(n, bits)}
	for range ways {
		z.Gens = append(z.Gens, d.numbers(n, bits))
	}
	for i, x := range z.Round {
		z.Round[i] = dyad.Abs(x)
	}
	return z
}

// rat: a ratio, below 0 as often as above.
func (d *dice) rat() api.Rat {
	return ratio.Of(int64(d.next(1<<30)-1<<29), int64(1+d.next(1<<25)))
}

// model: a set of ratios.
func (d *dice) model(n, ways int) model.Zono {
	row := func() []api.Rat {
		var all []api.Rat
		for range n {
			all = append(all, d.rat())
		}
		return all
	}
	z := model.Zono{Center: row()}
	for range ways {
		z.Gens = append(z.Gens, row())
	}
	return z
}

// span: one, alone as often as not.
func (d *dice) span(bits int) api.Span {
	a, b := d.number(bits), d.number(bits)
	if d.next(2) == 0 {
		return api.Span{Lo: a, Hi: a}
	}
	return api.Span{Lo: dyad.Min(a, b), Hi: dyad.Max(a, b)}
}

// row, table: some of them.
func (d *dice) row(n, bits int) []api.Span {
	var all []api.Span
	for range n {
		all = append(all, d.span(bits))
	}
	return all
}

func (d *dice) table(rows, cols, bits int) [][]api.Span {
	all := make([][]api.Span, rows)
	for i := range all {
		all[i] = d.row(cols, bits)
	}
	return all
}

// within: a number of a span: an end, or between.
func (d *dice) within(a api.Span) *big.Rat {
	lo, hi := value(a.Lo), value(a.Hi)
	return plus(lo, times(minus(hi, lo), big.NewRat(int64(d.next(3)), 2)))
}

// widths: how many bits are rounded to.
func widths() []int { return []int{2, 3, 8, 40, 64, 300, dyad.MaxBits} }

// wrongWidths: how many can't be.
func wrongWidths() []int { return []int{-1 << 63, -1, 0, 1, dyad.MaxBits + 1, 1<<63 - 1} }
