package mat_test

import (
	"encoding/binary"
	"fmt"
	"math/big"
	"reflect"
	"testing"

	"girdle/api"
	"girdle/dyad"
	"girdle/limbs"
	"girdle/ratio"
	"girdle/span"
)

// maxBits is how many bits a whole number's size has at most.
const maxBits = limbs.MaxLimbs * 32

// sizeOf: the digits of one of the library's numbers.
func sizeOf(n *big.Int) api.Nat {
	a := make(api.Nat, (n.BitLen()+31)/32)
	bytes := n.FillBytes(make([]byte, 4*len(a)))
	for i := range a {
		a[len(a)-1-i] = binary.BigEndian.Uint32(bytes[4*i:])
	}
	return a
}

// ratOf: one of the library's ratios, which are in lowest terms, as one of ours.
func ratOf(r *big.Rat) api.Rat {
	return api.Rat{Num: api.Int{Minus: r.Sign() < 0, Size: sizeOf(r.Num())}, Den: sizeOf(r.Denom())}
}

// ratsOf: a list of them.
func ratsOf(list []*big.Rat) []api.Rat {
	var all []api.Rat
	for _, r := range list {
		all = append(all, ratOf(r))
	}
	return all
}

// ratTable: a table of them.
func ratTable(table [][]*big.Rat) [][]api.Rat {
	all := make([][]api.Rat, len(table))
	for i, row := range table {
		all[i] = ratsOf(row)
	}
	return all
}

// list: whole numbers as ratios.
func list(n ...int64) []api.Rat {
	var all []api.Rat
	for _, x := range n {
		all = append(all, ratio.Of(x, 1))
	}
	return all
}

// power: 2 to the power of n.
func power(n int) *big.Int { return new(big.Int).Lsh(big.NewInt(1), uint(n)) }

// ones: the greatest number of so many bits.
func ones(n int) *big.Int { return new(big.Int).Sub(power(n), big.NewInt(1)) }

// frac: a ratio of two of the library's numbers.
func frac(num, den *big.Int) *big.Rat { return new(big.Rat).SetFrac(num, den) }

// plus, minus, times: as the library reckons.
func plus(a, b *big.Rat) *big.Rat { return new(big.Rat).Add(a, b) }

func minus(a, b *big.Rat) *big.Rat { return new(big.Rat).Sub(a, b) }

func times(a, b *big.Rat) *big.Rat { return new(big.Rat).Mul(a, b) }

// number: an odd one of the library's times 2 to the power of exp.
func number(man *big.Int, exp int) api.Dyad {
	return api.Dyad{Man: api.Int{Minus: man.Sign() < 0, Size: sizeOf(man)}, Exp: exp}
}

// value: a number as one of the library's ratios.
func value(a api.Dyad) *big.Rat {
	var bytes []byte
	for i := len(a.Man.Size) - 1; i >= 0; i-- {
		bytes = binary.BigEndian.AppendUint32(bytes, a.Man.Size[i])
	}
	man := new(big.Int).SetBytes(bytes)
	if a.Man.Minus {
		man.Neg(man)
	}
	if a.Exp < 0 {
		return new(big.Rat).SetFrac(man, power(-a.Exp))
	}
	return new(big.Rat).SetInt(man.Lsh(man, uint(a.Exp)))
}

// pair is the ends of a span as the library's ratios.
type pair struct{ lo, hi *big.Rat }

// ends: those of a span.
func ends(a api.Span) pair { return pair{value(a.Lo), value(a.Hi)} }

// outwards: the span of two ratios, rounded to so many bits.
func outwards(a pair, bits int) api.Span {
	lo, _ := dyad.Near(ratOf(a.lo), bits, false)
	hi, _ := dyad.Near(ratOf(a.hi), bits, true)
	return api.Span{Lo: lo, Hi: hi}
}

// together, product: what two spans come to, not rounded.
func together(a, b pair) pair { return pair{plus(a.lo, b.lo), plus(a.hi, b.hi)} }

func product(a, b pair) pair {
	all := pair{times(a.lo, b.lo), times(a.lo, b.lo)}
	for _, r := range []*big.Rat{times(a.lo, b.hi), times(a.hi, b.lo), times(a.hi, b.hi)} {
		if r.Cmp(all.lo) < 0 {
			all.lo = r
		}
		if r.Cmp(all.hi) > 0 {
			all.hi = r
		}
	}
	return all
}

// of: from one small number to another one, times 2 to the power of exp.
func of(lo, hi int64, exp int) api.Span {
	return api.Span{Lo: dyad.Of(lo, exp), Hi: dyad.Of(hi, exp)}
}

// same: are both told the same way? An empty list may be nil or not.
func same(a, b any) bool {
	return fmt.Sprint(a) == fmt.Sprint(b)
}

// expect: is the answer what is asked, beside no error?
func expect(t *testing.T, what string, got any, e api.Errno, want any) {
	t.Helper()
	if e != api.OK || !same(got, want) {
		t.Errorf("%.200s: %.200v, error %d, not %.200v", what, got, e, want)
	}
}

// refuse: is the answer that error, and nothing beside it?
func refuse(t *testing.T, what string, got any, e, want api.Errno) {
	t.Helper()
	if e != want || !nothing(got) {
		t.Errorf("%.200s: error %d and %.200v, not error %d and nothing", what, e, got, want)
	}
}

// nothing: is it what stands beside an error: none, 0, false?
func nothing(got any) bool {
	switch x := got.(type) {
	case []api.Rat:
		return len(x) == 0
	case []api.Span:
		return len(x) == 0
	case [][]api.Rat:
		return len(x) == 0
	case [][]api.Span:
		return len(x) == 0
	case api.Dyad:
		return same(x, api.Dyad{})
	case api.Rat:
		return same(x, ratio.Zero())
	case api.Span:
		return same(x, api.Span{})
	case bool:
		return !x
	}
	return false
}

// told: a table in words.
func told(a [][]api.Rat) string {
	text := "["
	for _, row := range a {
		for _, x := range row {
			text += ratio.Text(x) + " "
		}
		text += "; "
	}
	return text + "]"
}

// toldSpans: a table of spans in words.
func toldSpans(a [][]api.Span) string {
	text := "["
	for _, row := range a {
		for _, x := range row {
			text += span.Text(x) + " "
		}
		text += "; "
	}
	return text + "]"
}

// dice gives numbers that look thrown, the same ones at each run.
type dice uint64

// next: a number below n.
func (d *dice) next(n int) int {
	*d ^= *d << 13
	*d ^= *d >> 7
	*d ^= *d << 17
	return int(uint64(*d) >> 1 % uint64(n))
}

// big: a number, below 0 as often as above, of no more than so many bits.
func (d *dice) big(bits int) *big.Int {
	n := new(big.Int)
	for range bits {
		n.Lsh(n, 1)
		n.Or(n, big.NewInt(int64(d.next(2))))
	}
	if d.next(2) == 0 {
		n.Neg(n)
	}
	return n
}

// rat: a ratio of numbers of no more than so many bits.
func (d *dice) rat(bits int) *big.Rat {
	den := d.big(bits)
	if den.Sign() == 0 {
		den = big.NewInt(1)
	}
	return frac(d.big(bits), den)
}

// rats: a table of them.
func (d *dice) rats(rows, cols, bits int) [][]*big.Rat {
	all := make([][]*big.Rat, rows)
	for i := range all {
		for range cols {
			all[i] = append(all[i], d.rat(1+d.next(bits)))
		}
	}
	return all
}

// span: one with ends of no more than so many bits; 0 is one of them at times.
func (d *dice) span(bits int) api.Span {
	a := number0(d.big(1+d.next(bits)), -d.next(20))
	b := number0(d.big(1+d.next(bits)), -d.next(20))
	return api.Span{Lo: dyad.Min(a, b), Hi: dyad.Max(a, b)}
}

// spans: a table of them.
func (d *dice) spans(rows, cols, bits int) [][]api.Span {
	all := make([][]api.Span, rows)
	for i := range all {
		for range cols {
			all[i] = append(all[i], d.span(bits))
		}
	}
	return all
}

// number0: a number, odd or not, times 2 to the power of exp.
func number0(man *big.Int, exp int) api.Dyad {
	a, e := dyad.Make(api.Int{Minus: man.Sign() < 0, Size: sizeOf(man)}, exp)
	if e != api.OK {
		panic("a number that can't be")
	}
	return a
}

// widths: how many bits are rounded to.
func widths() []int { return []int{2, 3, 8, 64, 300, dyad.MaxBits} }

// memory is where a list stands, its spare room too.
type memory struct{ from, to uintptr }

// memories: where all lists stand that something holds, or that stand in these.
func memories(v reflect.Value) []memory {
	var all []memory
	switch v.Kind() {
	case reflect.Interface, reflect.Pointer:
		if !v.IsNil() {
			all = memories(v.Elem())
		}
	case reflect.Struct:
		for i := range v.NumField() {
			all = append(all, memories(v.Field(i))...)
		}
	case reflect.Slice:
		if v.Cap() > 0 {
			from := v.Pointer()
			all = append(all, memory{from, from + uintptr(v.Cap())*v.Type().Elem().Size()})
		}
		v = v.Slice(0, v.Cap())
		for i := range v.Len() {
			all = append(all, memories(v.Index(i))...)
		}
	}
	return all
}

// shared: has one something in common with another one?
func shared(list, others []memory) bool {
	for _, a := range list {
		for _, b := range others {
			if a.from < b.to && b.from < a.to {
				return true
			}
		}
	}
	return false
}

// sharedWithin: have two of one list something in common?
func sharedWithin(list []memory) bool {
	for i := range list {
		if shared(list[:i], list[i:i+1]) {
			return true
		}
	}
	return false
}
