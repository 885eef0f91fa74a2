package dyad_test

import (
	"encoding/binary"
	"math/big"
	"slices"
	"strconv"
	"testing"

	"girdle/api"
	"girdle/dyad"
	"girdle/limbs"
)

// maxBits is how many bits a whole number's size has at most.
const maxBits = limbs.MaxLimbs * 32

// sizeOf: the digits of one of the library's numbers.
func sizeOf(n *big.Int) api.Nat {
	a := make(api.Nat, (n.BitLen()+31)/32)
	bytes := n.FillBytes(make([]byte, 4*len(a)))
	for i := range a {
		a[len(a)-1-i] = binary.BigEndian.Uint32(bytes[4*i:])
	}
	return a
}

// intOf: one of the library's as a whole number.
func intOf(n *big.Int) api.Int {
	return api.Int{Minus: n.Sign() < 0, Size: sizeOf(n)}
}

// ratOf: one of the library's ratios, which are in lowest terms, as one of ours.
func ratOf(r *big.Rat) api.Rat {
	return api.Rat{Num: intOf(r.Num()), Den: sizeOf(r.Denom())}
}

// small: a small one of the library's.
func small(n int64) *big.Int { return big.NewInt(n) }

// power: 2 to the power of n.
func power(n int) *big.Int { return new(big.Int).Lsh(small(1), uint(n)) }

// ones: the greatest number of so many bits.
func ones(n int) *big.Int { return new(big.Int).Sub(power(n), small(1)) }

// number is one of the library's times 2 to the power of exp; in lowest terms man
// is odd, or both are 0.
type number struct {
	man *big.Int
	exp int
}

// lowest: the same number in lowest terms.
func lowest(man *big.Int, exp int) number {
	if man.Sign() == 0 {
		return number{small(0), 0}
	}
	tail := int(man.TrailingZeroBits())
	return number{new(big.Int).Rsh(man, uint(tail)), exp + tail}
}

// of: a small number times 2 to the power of exp.
func of(n int64, exp int) number { return lowest(small(n), exp) }

// value: it as one of the library's ratios.
func (n number) value() *big.Rat {
	if n.exp < 0 {
		return new(big.Rat).SetFrac(n.man, power(-n.exp))
	}
	return new(big.Rat).SetInt(at(n.man, n.exp))
}

// dyad: it as one of ours.
func (n number) dyad() api.Dyad {
	return api.Dyad{Man: intOf(n.man), Exp: n.exp}
}

// minus: it the other way round.
func (n number) minus() number {
	return number{new(big.Int).Neg(n.man), n.exp}
}

// String: it in words, hexadecimally, for that takes no time.
func (n number) String() string {
	return "0x" + short(n.man.Text(16)) + " times 2^" + strconv.Itoa(n.exp)
}

// short: the beginning of a long text.
func short(s string) string {
	if len(s) > 30 {
		return s[:30] + "..."
	}
	return s
}

// at: a number times 2 to the power of exp, from 0 on.
func at(man *big.Int, exp int) *big.Int { return new(big.Int).Lsh(man, uint(exp)) }

// sameInt: are both told the same way?
func sameInt(a, b api.Int) bool {
	return a.Minus == b.Minus && slices.Equal(a.Size, b.Size)
}

// sameDyad: are both told the same way?
func sameDyad(a, b api.Dyad) bool {
	return sameInt(a.Man, b.Man) && a.Exp == b.Exp
}

// sameRat: are both told the same way?
func sameRat(a, b api.Rat) bool {
	return sameInt(a.Num, b.Num) && slices.Equal(a.Den, b.Den)
}

// expect: is the answer the number that is asked, told as it must be, beside no
// error; or, where there is no room for it, the error of that alone?
func expect(t *testing.T, what string, got api.Dyad, e api.Errno, want number) {
	t.Helper()
	switch {
	case want.man.BitLen() > maxBits:
		refuse(t, what, got, e, api.ErrLimbs)
	case want.exp < -dyad.MaxExp || want.exp > dyad.MaxExp:
		refuse(t, what, got, e, api.ErrRange)
	case e != api.OK:
		t.Errorf("%s: error %d", what, e)
	case !sameDyad(got, want.dyad()):
		t.Errorf("%s: %v, not %v", what, got, want.dyad())
	}
}

// refuse: is the answer that error, and 0 beside it?
func refuse(t *testing.T, what string, got api.Dyad, e, want api.Errno) {
	t.Helper()
	if e != want || got.Man.Minus || len(got.Man.Size) != 0 || got.Exp != 0 {
		t.Errorf("%s: error %d and %v, not error %d and 0", what, e, got, want)
	}
}

// dice gives numbers that look thrown, the same ones at each run.
type dice uint64

// next: a number below n.
func (d *dice) next(n int) int {
	*d ^= *d << 13
	*d ^= *d >> 7
	*d ^= *d << 17
	return int(uint64(*d) >> 1 % uint64(n))
}

// big: a number, below 0 as often as above, of no more than so many bits.
func (d *dice) big(bits int) *big.Int {
	n := new(big.Int)
	for range bits {
		n.Lsh(n, 1)
		n.Or(n, small(int64(d.next(2))))
	}
	if d.next(2) == 0 {
		n.Neg(n)
	}
	return n
}

// rat: a ratio of numbers of no more than so many bits.
func (d *dice) rat(bits int) *big.Rat {
	den := d.big(bits)
	if den.Sign() == 0 {
		den = small(1)
	}
	return new(big.Rat).SetFrac(d.big(bits), den)
}

// mans: numbers at which something may end.
func mans() []*big.Int {
	return []*big.Int{
		small(1), small(3), small(5), small(7), small(9), small(21), small(31), ones(31), ones(32), small(1<<32 + 1), ones(33), ones(63), ones(64), ones(65),
		new(big.Int).Add(power(64), small(1)), new(big.Int).Add(power(100), ones(40)), ones(300),
	}
}

// numbers: some at which something may end, and some that look thrown, both ways.
func numbers() []number {
	d := dice(20261120)
	list := []number{of(0, 0)}
	for i, man := range mans() {
		for _, exp := range []int{0, -1, 1, d.next(80) - 40, d.next(800) - 400} {
			n := lowest(man, exp)
			if (i+exp)%2 == 0 {
				n = n.minus()
			}
			list = append(list, n)
		}
	}
	for range 30 {
		n := lowest(d.big(1+d.next(250)), d.next(200)-100)
		list = append(list, n, n.minus())
	}
	return list
}

// bounds: numbers at the bounds of what may be.
func bounds() []number {
	var list []number
	for _, man := range []*big.Int{small(1), small(3), ones(64), ones(maxBits / 2), ones(maxBits - 1), ones(maxBits)} {
		for _, exp := range []int{
			0, 1, -1, maxBits - 1, maxBits, 1 - maxBits, -maxBits, dyad.MaxExp - 1, dyad.MaxExp, 1 - dyad.MaxExp, -dyad.MaxExp,
		} {
			n := lowest(man, exp)
			list = append(list, n, n.minus())
		}
	}
	return append(list, of(0, 0))
}
