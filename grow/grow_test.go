package grow_test

import (
	"fmt"
	"math"
	"math/big"
	"testing"

	"girdle/api"
	"girdle/dyad"
	"girdle/grow"
	"girdle/mat"
	"girdle/ratio"
	"girdle/span"
)

// truthBits is with how many bits behind the point it is reckoned what is true.
const truthBits = 2000

// between is two ratios between which a true number is.
type between struct{ lo, hi *big.Rat }

// behind: the sum of the powers of r, from the one of 0 on, each divided by 1, 2 and
// so on to its exponent and from more.
func behind(r *big.Rat, from int64) between {
	term := new(big.Int).Lsh(big.NewInt(1), truthBits)
	term.Quo(term, new(big.Int).MulRange(1, from))
	sum := new(big.Int)
	for n := from + 1; term.Sign() > 0; n++ {
		sum.Add(sum, term)
		term.Mul(term, r.Num())
		term.Quo(term, new(big.Int).Mul(r.Denom(), big.NewInt(n)))
	}
	// What is rounded down, some thousand times, grows by less than 2 to the power of 50.
	more := new(big.Int).Add(sum, power(100))
	return between{new(big.Rat).SetFrac(sum, power(truthBits)), new(big.Rat).SetFrac(more, power(truthBits))}
}

// times: both times a ratio from 0 on.
func (b between) times(r *big.Rat) between {
	return between{new(big.Rat).Mul(b.lo, r), new(big.Rat).Mul(b.hi, r)}
}

// more: a number, and so much of it, in parts of the last of so many bits.
func more(r *big.Rat, parts int64, bits int) *big.Rat {
	by := new(big.Rat).SetFrac(big.NewInt(parts), power(bits))
	return by.Add(r, by.Mul(by, r))
}

// holds: is the true number held, and nothing else that so many bits could tell?
func holds(t *testing.T, what string, a api.Span, e api.Errno, want between, bits int) {
	t.Helper()
	lo, hi := value(a.Lo), value(a.Hi)
	if e != api.OK || lo.Cmp(want.hi) > 0 || hi.Cmp(want.lo) < 0 {
		t.Errorf("%.100s to %d bits: error %d, %s doesn't hold %s", what, bits, e, span.Text(a), want.lo.FloatString(50))
	}
	if lo.Cmp(more(want.lo, -3, bits)) < 0 || hi.Cmp(more(want.hi, 3, bits)) > 0 {
		t.Errorf("%.100s to %d bits: %.200s is too wide", what, bits, span.Text(a))
	}
}

// above: is it no less than the true number, and no more but for what so many bits can tell?
func above(t *testing.T, what string, a api.Dyad, e api.Errno, want between, bits int) {
	t.Helper()
	if e != api.OK || dyad.Check(a) != api.OK || value(a).Cmp(want.lo) < 0 {
		t.Errorf("%.100s to %d bits: error %d, less than %s", what, bits, e, want.lo.FloatString(50))
	}
	if value(a).Cmp(more(want.hi, 3, bits)) > 0 {
		t.Errorf("%.100s to %d bits: more than %s", what, bits, want.hi.FloatString(50))
	}
}

// isTrue: is all that is told of a number true?
func isTrue(t *testing.T, r api.Rat, bits int) {
	t.Helper()
	what, by := ratio.Text(r), rational(r)
	x, e := grow.Exp(r, bits)
	holds(t, "Exp of "+what, x, e, behind(by, 0), bits)
	x, e = grow.One(r, bits)
	holds(t, "One of "+what, x, e, behind(by, 1), bits)
	x, e = grow.Two(r, bits)
	holds(t, "Two of "+what, x, e, behind(by, 2), bits)
	rest := behind(by, 2)
	y, e := grow.Rise(r, bits)
	above(t, "Rise of "+what, y, e, rest.times(by), bits)
	y, e = grow.Curve(r, bits)
	above(t, "Curve of "+what, y, e, rest.times(by).times(by), bits)
}

// edges: numbers from 0 to MaxRate, some of them at an end of it, or such that
// layers 4 and 5 have no room to compare, multiply or divide them.
func edges() []api.Rat {
	all := []api.Rat{part(power(60)), part(power(1000)), part(power(16383)), part(ones(maxBits))}
	for _, x := range [][2]int64{{0, 1}, {1, 1}, {2, 1}, {1, 3}, {1, 10}, {7, 1000}, {1, 1 << 40}, {19, 7}, {31, 2}, {31, 1}, {32, 1}, {319, 10}} {
		all = append(all, ratio.Of(x[0], x[1]))
	}
	under := new(big.Int).Sub(new(big.Int).Lsh(ones(maxBits-6), 5), big.NewInt(1))
	return append(all, ratOf(new(big.Rat).SetFrac(under, ones(maxBits-6))))
}

func TestIsTrue(t *testing.T) {
	for _, r := range edges() {
		for _, bits := range []int{8, 9, 30, 64, 511, 512} {
			isTrue(t, r, bits)
		}
	}
}

func TestIsTrueOfMany(t *testing.T) {
	d := uint64(777)
	for range 150 {
		d ^= d << 13
		d ^= d >> 7
		d ^= d << 17
		by := int64(1 + d>>20%1000)
		isTrue(t, ratio.Of(int64(d>>40)%(32*by+1), by), int(8+d>>4%200))
	}
}

// The document's example: the curve of 1 is e less 2.
func TestExample(t *testing.T) {
	less, _ := new(big.Rat).SetString("0.71828182845904523536028747135266249775724709369995")
	greater, _ := new(big.Rat).SetString("0.71828182845904523536028747135266249775724709369996")
	got, e := grow.Curve(ratio.Of(1, 1), 100)
	above(t, "the curve of 1", got, e, between{less, greater}, 100)
}

// Of 0 all is known exactly.
func TestOfNothing(t *testing.T) {
	for _, bits := range []int{8, 60, 512} {
		for _, x := range []struct {
			name string
			call func(r api.Rat, bits int) (api.Span, api.Errno)
			want api.Dyad
		}{{"Exp", grow.Exp, dyad.Of(1, 0)}, {"One", grow.One, dyad.Of(1, 0)}, {"Two", grow.Two, dyad.Of(1, -1)}} {
			if got, e := x.call(ratio.Zero(), bits); e != api.OK || !same(got, span.Point(x.want)) {
				t.Errorf("%s of 0: error %d, %s", x.name, e, span.Text(got))
			}
		}
		for name, call := range dyads() {
			if got, e := call(ratio.Zero(), bits); e != api.OK || !same(got, api.Dyad{}) {
				t.Errorf("%s of 0: error %d, %v", name, e, got)
			}
		}
	}
}

// spans, dyads: the calls that answer these.
func spans() map[string]func(r api.Rat, bits int) (api.Span, api.Errno) {
	return map[string]func(r api.Rat, bits int) (api.Span, api.Errno){"Exp": grow.Exp, "One": grow.One, "Two": grow.Two}
}

func dyads() map[string]func(r api.Rat, bits int) (api.Dyad, api.Errno) {
	return map[string]func(r api.Rat, bits int) (api.Dyad, api.Errno){"Curve": grow.Curve, "Rise": grow.Rise}
}

// refuses: does each call answer ErrRange, and nothing beside it?
func refuses(t *testing.T, what string, r api.Rat, bits int) {
	t.Helper()
	for name, call := range spans() {
		if got, e := call(r, bits); e != api.ErrRange || !same(got, api.Span{}) {
			t.Errorf("%s of %s: error %d, %s", name, what, e, span.Text(got))
		}
	}
	for name, call := range dyads() {
		if got, e := call(r, bits); e != api.ErrRange || !same(got, api.Dyad{}) {
			t.Errorf("%s of %s: error %d, %v", name, what, e, got)
		}
	}
}

func TestOutOfRange(t *testing.T) {
	if grow.MaxRate != 32 {
		t.Errorf("MaxRate: %d", grow.MaxRate)
	}
	for _, bits := range []int{math.MinInt, -1, 0, 7, 513, dyad.MaxBits, math.MaxInt} {
		refuses(t, fmt.Sprint(bits, " bits"), ratio.Of(1, 2), bits)
		refuses(t, fmt.Sprint("0 to ", bits, " bits"), ratio.Zero(), bits)
		refuses(t, fmt.Sprint("-1 to ", bits, " bits"), ratio.Of(-1, 1), bits)
	}
	over := new(big.Int).Add(power(maxBits-1), big.NewInt(1))
	for _, r := range []*big.Rat{
		big.NewRat(-1, 1), big.NewRat(-1, 1000000), new(big.Rat).SetFrac(big.NewInt(-1), ones(maxBits)),
		big.NewRat(33, 1), big.NewRat(32000001, 1000000), new(big.Rat).SetInt(ones(maxBits)), new(big.Rat).SetFrac(over, power(maxBits-6)),
	} {
		for _, bits := range []int{8, 512} {
			refuses(t, "what is out of range", ratOf(r), bits)
		}
	}
}

func TestRate(t *testing.T) {
	a := [][]api.Rat{{ratio.Of(1, 3), ratio.Of(-1, 2)}, {ratio.Of(-3, 4), ratio.Zero()}}
	for _, x := range []struct {
		a    [][]api.Rat
		time api.Rat
		want string
	}{
		{a, ratio.Of(1, 1), "5/6"},
		{a, ratio.Of(6, 7), "5/7"},
		{a[1:], ratio.Of(2, 1), "3/2"},
		{a, ratio.Of(-1, 1), "-5/6"},
		{a, ratio.Zero(), "0"},
		{nil, ratio.Of(5, 1), "0"},
		{[][]api.Rat{{}, {ratio.Of(-9, 1)}}, ratio.Of(1, 3), "3"},
		{[][]api.Rat{{part(ones(maxBits))}}, ratOf(new(big.Rat).SetInt(power(maxBits - 1))), ""},
	} {
		got, e := grow.Rate(x.a, x.time)
		norm, f := mat.Norm(x.a)
		want, g := ratio.Mul(norm, x.time)
		if f != api.OK || e != g || !same(got, want) || x.want != "" && ratio.Text(got) != x.want {
			t.Errorf("Rate of %v for %s: error %d, %s", x.a, ratio.Text(x.time), e, ratio.Text(got))
		}
	}
}

func TestRateWithoutRoom(t *testing.T) {
	huge := ratOf(new(big.Rat).SetInt(ones(maxBits)))
	for _, x := range []struct {
		name string
		a    [][]api.Rat
		time api.Rat
	}{
		{"the norm", [][]api.Rat{{huge, huge}}, ratio.Of(1, 1)},
		{"what it is times the time", [][]api.Rat{{huge}}, ratio.Of(2, 1)},
	} {
		if got, e := grow.Rate(x.a, x.time); e != api.ErrLimbs || ratio.Sign(got) != 0 {
			t.Errorf("%s: error %d", x.name, e)
		}
	}
}
