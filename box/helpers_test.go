package box_test

import (
	"encoding/binary"
	"fmt"
	"math/big"
	"testing"

	"girdle/api"
	"girdle/box"
	"girdle/dyad"
	"girdle/limbs"
	"girdle/ratio"
	"girdle/span"
)

// maxBits is how many bits a whole number's size has at most.
const maxBits = limbs.MaxLimbs * 32

// sizeOf: the digits of one of the library's numbers.
func sizeOf(n *big.Int) api.Nat {
	a := make(api.Nat, (n.BitLen()+31)/32)
	bytes := n.FillBytes(make([]byte, 4*len(a)))
	for i := range a {
		a[len(a)-1-i] = binary.BigEndian.Uint32(bytes[4*i:])
	}
	return a
}

// ratOf: one of the library's ratios, which are in lowest terms, as one of ours.
func ratOf(r *big.Rat) api.Rat {
	return api.Rat{Num: api.Int{Minus: r.Sign() < 0, Size: sizeOf(r.Num())}, Den: sizeOf(r.Denom())}
}

// list: whole numbers as ratios.
func list(n ...int64) []api.Rat {
	var all []api.Rat
	for _, x := range n {
		all = append(all, ratio.Of(x, 1))
	}
	return all
}

// power: 2 to the power of n.
func power(n int) *big.Int { return new(big.Int).Lsh(big.NewInt(1), uint(n)) }

// ones: the greatest number of so many bits.
func ones(n int) *big.Int { return new(big.Int).Sub(power(n), big.NewInt(1)) }

// plus, minus, times: as the library reckons.
func plus(a, b *big.Rat) *big.Rat { return new(big.Rat).Add(a, b) }

func minus(a, b *big.Rat) *big.Rat { return new(big.Rat).Sub(a, b) }

func times(a, b *big.Rat) *big.Rat { return new(big.Rat).Mul(a, b) }

// greater: the greater one of two.
func greater(a, b *big.Rat) *big.Rat {
	if a.Cmp(b) < 0 {
		return b
	}
	return a
}

// number: an odd one of the library's times 2 to the power of exp.
func number(man *big.Int, exp int) api.Dyad {
	return api.Dyad{Man: api.Int{Minus: man.Sign() < 0, Size: sizeOf(man)}, Exp: exp}
}

// top: the greatest power of 2.
func top() api.Dyad { return number(big.NewInt(1), dyad.MaxExp) }

// value: a number as one of the library's ratios.
func value(a api.Dyad) *big.Rat {
	var bytes []byte
	for i := len(a.Man.Size) - 1; i >= 0; i-- {
		bytes = binary.BigEndian.AppendUint32(bytes, a.Man.Size[i])
	}
	man := new(big.Int).SetBytes(bytes)
	if a.Man.Minus {
		man.Neg(man)
	}
	if a.Exp < 0 {
		return new(big.Rat).SetFrac(man, power(-a.Exp))
	}
	return new(big.Rat).SetInt(man.Lsh(man, uint(a.Exp)))
}

// outwards: the span of two ratios, rounded to so many bits.
func outwards(lo, hi *big.Rat, bits int) api.Span {
	from, _ := dyad.Near(ratOf(lo), bits, false)
	to, _ := dyad.Near(ratOf(hi), bits, true)
	return api.Span{Lo: from, Hi: to}
}

// of: from one small number to another one, times 2 to the power of exp.
func of(lo, hi int64, exp int) api.Span {
	return api.Span{Lo: dyad.Of(lo, exp), Hi: dyad.Of(hi, exp)}
}

// same: are both told the same way? An empty list may be nil or not.
func same(a, b any) bool {
	return fmt.Sprint(a) == fmt.Sprint(b)
}

// expect: is the answer what is asked, beside no error?
func expect(t *testing.T, what string, got any, e api.Errno, want any) {
	t.Helper()
	if e != api.OK || !same(got, want) {
		t.Errorf("%.200s: %.200v, error %d, not %.200v", what, got, e, want)
	}
}

// refuse: is the answer that error, and nothing beside it?
func refuse(t *testing.T, what string, got any, e, want api.Errno) {
	t.Helper()
	if e != want || !nothing(got) {
		t.Errorf("%.200s: error %d and %.200v, not error %d and nothing", what, e, got, want)
	}
}

// nothing: is it what stands beside an error: none, 0, false?
func nothing(got any) bool {
	switch x := got.(type) {
	case box.Box:
		return len(x) == 0
	case api.Dyad:
		return same(x, api.Dyad{})
	case bool:
		return !x
	}
	return false
}

// told: a box in words.
func told(a box.Box) string {
	text := ""
	for _, x := range a {
		text += span.Text(x) + " "
	}
	return text
}

// dice gives numbers that look thrown, the same ones at each run.
type dice uint64

// next: a number below n.
func (d *dice) next(n int) int {
	*d ^= *d << 13
	*d ^= *d >> 7
	*d ^= *d << 17
	return int(uint64(*d) >> 1 % uint64(n))
}

// number: one of no more than so many bits, below 0 as often as above.
func (d *dice) number(bits int) api.Dyad {
	man := new(big.Int)
	for range 1 + d.next(bits) {
		man.Lsh(man, 1)
		man.Or(man, big.NewInt(int64(d.next(2))))
	}
	a, e := dyad.Make(api.Int{Minus: man.Sign() > 0 && d.next(2) == 0, Size: sizeOf(man)}, -d.next(20))
	if e != api.OK {
		panic("a number that can't be")
	}
	return a
}

// numbers: n of them.
func (d *dice) numbers(n, bits int) []api.Dyad {
	var all []api.Dyad
	for range n {
		all = append(all, d.number(bits))
	}
	return all
}

// box: one of so many places.
func (d *dice) box(n, bits int) box.Box {
	var all box.Box
	for range n {
		a, b := d.number(bits), d.number(bits)
		all = append(all, api.Span{Lo: dyad.Min(a, b), Hi: dyad.Max(a, b)})
	}
	return all
}

// widths: how many bits are rounded to.
func widths() []int { return []int{2, 3, 8, 64, 300, dyad.MaxBits} }

// wrongWidths: how many can't be.
func wrongWidths() []int { return []int{-1 << 63, -1, 0, 1, dyad.MaxBits + 1, 1<<63 - 1} }
