package model_test

import (
	"encoding/binary"
	"math/big"
	"reflect"
	"slices"
	"strings"
	"testing"

	"girdle/api"
	"girdle/limbs"
	"girdle/model"
	"girdle/ratio"
)

// maxBits is how many bits a whole number's size has at most.
const maxBits = limbs.MaxLimbs * 32

// sizeOf: the digits of one of the library's numbers.
func sizeOf(n *big.Int) api.Nat {
	a := make(api.Nat, (n.BitLen()+31)/32)
	bytes := n.FillBytes(make([]byte, 4*len(a)))
	for i := range a {
		a[len(a)-1-i] = binary.BigEndian.Uint32(bytes[4*i:])
	}
	return a
}

// ratOf: one of the library's ratios, which are in lowest terms, as one of ours.
func ratOf(r *big.Rat) api.Rat {
	return api.Rat{Num: api.Int{Minus: r.Sign() < 0, Size: sizeOf(r.Num())}, Den: sizeOf(r.Denom())}
}

// ratsOf: a list of them.
func ratsOf(list []*big.Rat) []api.Rat {
	var all []api.Rat
	for _, r := range list {
		all = append(all, ratOf(r))
	}
	return all
}

// list: whole numbers as ratios.
func list(n ...int64) []api.Rat {
	var all []api.Rat
	for _, x := range n {
		all = append(all, ratio.Of(x, 1))
	}
	return all
}

// power: 2 to the power of n.
func power(n int) *big.Int { return new(big.Int).Lsh(big.NewInt(1), uint(n)) }

// ones: the greatest number of so many bits.
func ones(n int) *big.Int { return new(big.Int).Sub(power(n), big.NewInt(1)) }

// frac: a ratio of two of the library's numbers.
func frac(num, den *big.Int) *big.Rat { return new(big.Rat).SetFrac(num, den) }

// whole: a number of the library's as a ratio.
func whole(n *big.Int) *big.Rat { return new(big.Rat).SetInt(n) }

// plus, times, by: as the library reckons.
func plus(a, b *big.Rat) *big.Rat { return new(big.Rat).Add(a, b) }

func times(a, b *big.Rat) *big.Rat { return new(big.Rat).Mul(a, b) }

func by(a, b *big.Rat) *big.Rat { return new(big.Rat).Quo(a, b) }

// some: a model that may be, of so many states and inputs, ways of its start and
// of its input, and claims; no two numbers of it are the same.
func some(dim, inputs, starts, comes, claims int) model.Model {
	last := int64(0)
	next := func() api.Rat {
		last++
		return ratio.Of(7*last, 5)
	}
	row := func(n int) []api.Rat {
		a := make([]api.Rat, n)
		for i := range a {
			a[i] = next()
		}
		return a
	}
	rows := func(n, wide int) [][]api.Rat {
		a := make([][]api.Rat, n)
		for i := range a {
			a[i] = row(wide)
		}
		return a
	}
	m := model.Model{Dim: dim, Inputs: inputs, A: rows(dim, dim), B: rows(dim, inputs), C: row(dim)}
	m.Start = model.Zono{Center: row(dim), Gens: rows(starts, dim)}
	m.Input = model.Zono{Center: row(inputs), Gens: rows(comes, inputs)}
	for i := range claims {
		m.Claims = append(m.Claims, model.Claim{Never: i%2 == 0, Dir: row(dim), Bound: next(), From: next(), To: next()})
	}
	m.Step, m.Horizon = next(), next()
	return m
}

// timed: a small model of that horizon and step, and one claim of these times.
func timed(horizon, step, from, to api.Rat) model.Model {
	m := some(1, 0, 0, 0, 1)
	m.Horizon, m.Step, m.Claims[0].From, m.Claims[0].To = horizon, step, from, to
	return m
}

// walk goes through all that something holds, and itself, where it may be changed.
func walk(v reflect.Value, see func(v reflect.Value)) {
	see(v)
	switch v.Kind() {
	case reflect.Pointer:
		walk(v.Elem(), see)
	case reflect.Struct:
		for i := range v.NumField() {
			walk(v.Field(i), see)
		}
	case reflect.Slice:
		for i := range v.Len() {
			walk(v.Index(i), see)
		}
	}
}

// held: all of one type that a model holds.
func held[T any](m *model.Model) []*T {
	var all []*T
	walk(reflect.ValueOf(m), func(v reflect.Value) {
		if v.CanAddr() {
			if x, ok := v.Addr().Interface().(*T); ok {
				all = append(all, x)
			}
		}
	})
	return all
}

// checks: does Check answer that?
func checks(t *testing.T, what string, m model.Model, want api.Errno) {
	t.Helper()
	if e := model.Check(m); e != want {
		t.Errorf("%s: %d, not %d", what, e, want)
	}
}

// sameList: are both the same ratios, told the same way?
func sameList(a, b []api.Rat) bool {
	return slices.EqualFunc(a, b, func(x, y api.Rat) bool {
		return x.Num.Minus == y.Num.Minus && slices.Equal(x.Num.Size, y.Num.Size) && slices.Equal(x.Den, y.Den)
	})
}

// told: a list in words.
func told(a []api.Rat) string {
	var text []string
	for _, x := range a {
		text = append(text, ratio.Text(x))
	}
	return strings.Join(text, " ")
}

// wrongRats: what is no ratio, beside some that are.
func wrongRats() []api.Rat {
	sizes := []api.Nat{nil, {1}, {6}, {0}, {0, 0, 5, 0}, sizeOf(ones(maxBits)), make(api.Nat, limbs.MaxLimbs+1), sizeOf(ones(1 << 22))}
	var all []api.Rat
	for i, num := range sizes {
		for _, den := range sizes {
			all = append(all, api.Rat{Num: api.Int{Minus: i%2 == 0, Size: num}, Den: den})
		}
	}
	return all
}

// dice gives numbers that look thrown, the same ones at each run.
type dice uint64

// next: a number below n.
func (d *dice) next(n int) int {
	*d ^= *d << 13
	*d ^= *d >> 7
	*d ^= *d << 17
	return int(uint64(*d) >> 1 % uint64(n))
}

// big: a number above 0 of no more than so many bits.
func (d *dice) big(bits int) *big.Int {
	n := big.NewInt(1)
	for range d.next(bits) {
		n.Lsh(n, 1)
		n.Or(n, big.NewInt(int64(d.next(2))))
	}
	return n
}

// rat: a ratio of numbers of no more than so many bits, below 0 as often as above.
func (d *dice) rat(bits int) *big.Rat {
	r := frac(d.big(bits), d.big(bits))
	if d.next(2) == 0 {
		r.Neg(r)
	}
	return r
}

// unit: a ratio from -1 to 1.
func (d *dice) unit(bits int) *big.Rat {
	r := d.rat(bits)
	if r.Num().CmpAbs(r.Denom()) > 0 {
		r.Inv(r)
	}
	return r
}
