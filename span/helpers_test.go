package span_test

import (
	"encoding/binary"
	"math/big"
	"slices"
	"testing"

	"girdle/api"
	"girdle/dyad"
	"girdle/limbs"
	"girdle/span"
)

// maxBits is how many bits a whole number's size has at most.
const maxBits = limbs.MaxLimbs * 32

// sizeOf: the digits of one of the library's numbers.
func sizeOf(n *big.Int) api.Nat {
	a := make(api.Nat, (n.BitLen()+31)/32)
	bytes := n.FillBytes(make([]byte, 4*len(a)))
	for i := range a {
		a[len(a)-1-i] = binary.BigEndian.Uint32(bytes[4*i:])
	}
	return a
}

// ratOf: one of the library's ratios, which are in lowest terms, as one of ours.
func ratOf(r *big.Rat) api.Rat {
	return api.Rat{Num: api.Int{Minus: r.Sign() < 0, Size: sizeOf(r.Num())}, Den: sizeOf(r.Denom())}
}

// power: 2 to the power of n.
func power(n int) *big.Int { return new(big.Int).Lsh(big.NewInt(1), uint(n)) }

// ones: the greatest number of so many bits.
func ones(n int) *big.Int { return new(big.Int).Sub(power(n), big.NewInt(1)) }

// number: an odd one of the library's times 2 to the power of exp.
func number(man *big.Int, exp int) api.Dyad {
	return api.Dyad{Man: api.Int{Minus: man.Sign() < 0, Size: sizeOf(man)}, Exp: exp}
}

// value: a number as one of the library's ratios.
func value(a api.Dyad) *big.Rat {
	var bytes []byte
	for i := len(a.Man.Size) - 1; i >= 0; i-- {
		bytes = binary.BigEndian.AppendUint32(bytes, a.Man.Size[i])
	}
	man := new(big.Int).SetBytes(bytes)
	if a.Man.Minus {
		man.Neg(man)
	}
	if a.Exp < 0 {
		return new(big.Rat).SetFrac(man, power(-a.Exp))
	}
	return new(big.Rat).SetInt(man.Lsh(man, uint(a.Exp)))
}

// place: the number of a ratio rounded to so many bits, which layer 5 promises.
func place(r *big.Rat, bits int, up bool) api.Dyad {
	a, _ := dyad.Near(ratOf(r), bits, up)
	return a
}

// of: from one small number to another one, times 2 to the power of exp.
func of(lo, hi int64, exp int) api.Span {
	return api.Span{Lo: dyad.Of(lo, exp), Hi: dyad.Of(hi, exp)}
}

// plus, times, minus: as the library reckons.
func plus(a, b *big.Rat) *big.Rat { return new(big.Rat).Add(a, b) }

func times(a, b *big.Rat) *big.Rat { return new(big.Rat).Mul(a, b) }

func minus(a, b *big.Rat) *big.Rat { return new(big.Rat).Sub(a, b) }

// sameDyad: are both told the same way?
func sameDyad(a, b api.Dyad) bool {
	return a.Man.Minus == b.Man.Minus && slices.Equal(a.Man.Size, b.Man.Size) && a.Exp == b.Exp
}

// sameSpan: are both told the same way?
func sameSpan(a, b api.Span) bool {
	return sameDyad(a.Lo, b.Lo) && sameDyad(a.Hi, b.Hi)
}

// expect: is the answer the span that is asked, beside no error?
func expect(t *testing.T, what string, got api.Span, e api.Errno, want api.Span) {
	t.Helper()
	if e != api.OK || !sameSpan(got, want) {
		t.Errorf("%s: %.200s, error %d, not %.200s", what, told(got), e, told(want))
	}
}

// refuse: is the answer that error, and 0 alone beside it?
func refuse(t *testing.T, what string, got api.Span, e, want api.Errno) {
	t.Helper()
	if e != want || !sameSpan(got, api.Span{}) {
		t.Errorf("%s: error %d and %.200s, not error %d and 0 alone", what, e, told(got), want)
	}
}

// refuseNumber: is the answer that error, and 0 beside it?
func refuseNumber(t *testing.T, what string, got api.Dyad, e, want api.Errno) {
	t.Helper()
	if e != want || !sameDyad(got, api.Dyad{}) {
		t.Errorf("%s: error %d and %v, not error %d and 0", what, e, got, want)
	}
}

// told: a span in words.
func told(a api.Span) string {
	if a.Lo.Exp > 4000 || a.Hi.Exp > 4000 || a.Lo.Exp < -4000 || a.Hi.Exp < -4000 {
		return "a span with a far end"
	}
	return value(a.Lo).RatString() + ".." + value(a.Hi).RatString()
}

// dice gives numbers that look thrown, the same ones at each run.
type dice uint64

// next: a number below n.
func (d *dice) next(n int) int {
	*d ^= *d << 13
	*d ^= *d >> 7
	*d ^= *d << 17
	return int(uint64(*d) >> 1 % uint64(n))
}

// number: one of no more than so many bits, below 0 as often as above.
func (d *dice) number(bits int) api.Dyad {
	man := new(big.Int)
	for range bits {
		man.Lsh(man, 1)
		man.Or(man, big.NewInt(int64(d.next(2))))
	}
	if d.next(2) == 0 {
		man.Neg(man)
	}
	return place(new(big.Rat).SetFrac(man, power(d.next(40))), dyad.MaxBits, false)
}

// spans: some at which something may end, and some that look thrown.
func spans() []api.Span {
	list := []api.Span{
		of(0, 0, 0), of(0, 1, 0), of(-1, 0, 0), of(-1, 1, 0), of(1, 2, 0), of(-2, -1, 0), of(-2, 3, 0), of(1, 5, 0), of(-7, -5, -3), of(-7, 5, 3), of(3, 3, 0), of(-3, -3, -5), of(1, 1, 0), of(-1, -1, 0),
		of(1<<40-1, 1<<40+1, 0), of(-1, 1<<60-1, -30), {Lo: number(big.NewInt(-3), -90), Hi: number(ones(70), 10)}, {Lo: number(ones(60), -100), Hi: number(ones(61), -100)},
	}
	d := dice(60661)
	for range 25 {
		a, b := d.number(1+d.next(100)), d.number(1+d.next(100))
		list = append(list, api.Span{Lo: dyad.Min(a, b), Hi: dyad.Max(a, b)})
	}
	for _, a := range list {
		if span.Check(a) != api.OK {
			panic("a span that can't be")
		}
	}
	return list
}

// within: some numbers of a span, its ends among them.
func within(a api.Span) []*big.Rat {
	lo, hi := value(a.Lo), value(a.Hi)
	var list []*big.Rat
	for i := range int64(4) {
		list = append(list, plus(lo, times(minus(hi, lo), big.NewRat(i, 3))))
	}
	return list
}

// holds: does a span hold a number?
func holds(a api.Span, r *big.Rat) bool {
	return value(a.Lo).Cmp(r) <= 0 && r.Cmp(value(a.Hi)) <= 0
}
