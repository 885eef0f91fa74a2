package series_test

import (
	"encoding/binary"
	"fmt"
	"math/big"
	"reflect"
	"testing"

	"girdle/api"
	"girdle/dyad"
	"girdle/limbs"
	"girdle/ratio"
	"girdle/series"
	"girdle/span"
)

// maxBits is how many bits a whole number's size has at most.
const maxBits = limbs.MaxLimbs * 32

// sizeOf: the digits of one of the library's numbers.
func sizeOf(n *big.Int) api.Nat {
	a := make(api.Nat, (n.BitLen()+31)/32)
	bytes := n.FillBytes(make([]byte, 4*len(a)))
	for i := range a {
		a[len(a)-1-i] = binary.BigEndian.Uint32(bytes[4*i:])
	}
	return a
}

// bigOf: a number as one of the library's.
func bigOf(a api.Int) *big.Int {
	var bytes []byte
	for i := len(a.Size) - 1; i >= 0; i-- {
		bytes = binary.BigEndian.AppendUint32(bytes, a.Size[i])
	}
	n := new(big.Int).SetBytes(bytes)
	if a.Minus {
		n.Neg(n)
	}
	return n
}

// ratOf: one of the library's ratios, which are in lowest terms, as one of ours.
func ratOf(r *big.Rat) api.Rat {
	return api.Rat{Num: api.Int{Minus: r.Sign() < 0, Size: sizeOf(r.Num())}, Den: sizeOf(r.Denom())}
}

// rational: a ratio as one of the library's.
func rational(a api.Rat) *big.Rat {
	return new(big.Rat).SetFrac(bigOf(a.Num), bigOf(api.Int{Size: a.Den}))
}

// value: a number as one of the library's ratios.
func value(a api.Dyad) *big.Rat {
	man := bigOf(a.Man)
	if a.Exp < 0 {
		return new(big.Rat).SetFrac(man, power(-a.Exp))
	}
	return new(big.Rat).SetInt(man.Lsh(man, uint(a.Exp)))
}

// power: 2 to the power of n.
func power(n int) *big.Int { return new(big.Int).Lsh(big.NewInt(1), uint(n)) }

// ones: the greatest number of so many bits.
func ones(n int) *big.Int { return new(big.Int).Sub(power(n), big.NewInt(1)) }

// two: 2 to the power of n, or divided by that.
func two(n int) api.Rat {
	if n < 0 {
		return ratOf(new(big.Rat).SetFrac(big.NewInt(1), power(-n)))
	}
	return ratOf(new(big.Rat).SetInt(power(n)))
}

// whole: one of the library's numbers as a ratio.
func whole(n *big.Int) api.Rat { return ratOf(new(big.Rat).SetInt(n)) }

// part: 1 divided by one of the library's numbers.
func part(n *big.Int) api.Rat { return ratOf(new(big.Rat).SetFrac(big.NewInt(1), n)) }

// row: whole numbers, all divided by one.
func row(by int64, n ...int64) []api.Rat {
	var all []api.Rat
	for _, x := range n {
		all = append(all, ratio.Of(x, by))
	}
	return all
}

// of: from one small number to another one, times 2 to the power of exp.
func of(lo, hi int64, exp int) api.Span {
	return api.Span{Lo: dyad.Of(lo, exp), Hi: dyad.Of(hi, exp)}
}

// points: spans of whole numbers alone.
func points(table ...[]int64) [][]api.Span {
	var all [][]api.Span
	for _, row := range table {
		var spans []api.Span
		for _, n := range row {
			spans = append(spans, of(n, n, 0))
		}
		all = append(all, spans)
	}
	return all
}

// told: a table in words.
func told(a [][]api.Rat) string {
	text := "["
	for _, row := range a {
		for _, x := range row {
			text += ratio.Text(x) + " "
		}
		text += "; "
	}
	return fmt.Sprintf("%.200s", text+"]")
}

// toldSpans: a table of spans in words.
func toldSpans(a [][]api.Span) string {
	text := "["
	for _, row := range a {
		for _, x := range row {
			text += span.Text(x) + " "
		}
		text += "; "
	}
	return fmt.Sprintf("%.400s", text+"]")
}

// same: are both told the same way? An empty list may be nil or not.
func same(a, b any) bool { return fmt.Sprint(a) == fmt.Sprint(b) }

// made: what Make answers; it must.
func made(t *testing.T, a [][]api.Rat, time api.Rat, bits int) series.Growth {
	t.Helper()
	p, e := series.Make(a, time, bits)
	if e != api.OK || len(p.Exp) != len(a) || len(p.Sum) != len(a) {
		t.Fatalf("Make of %s, %s, %d bits: error %d, %d and %d rows", told(a), ratio.Text(time), bits, e, len(p.Exp), len(p.Sum))
	}
	return p
}

// refuse: is the answer that error, and nothing beside it?
func refuse(t *testing.T, what string, p series.Growth, e, want api.Errno) {
	t.Helper()
	if e != want || len(p.Exp) != 0 || len(p.Sum) != 0 {
		t.Errorf("%.300s: error %d and %d and %d rows, not error %d and none", what, e, len(p.Exp), len(p.Sum), want)
	}
}

// dice gives numbers that look thrown, the same ones at each run.
type dice uint64

// next: a number below n.
func (d *dice) next(n int) int {
	*d ^= *d << 13
	*d ^= *d >> 7
	*d ^= *d << 17
	return int(uint64(*d) >> 1 % uint64(n))
}

// rats: a square table of ratios of a size of no more than most.
func (d *dice) rats(n, most int) [][]api.Rat {
	all := make([][]api.Rat, n)
	for i := range all {
		for range n {
			by := 1 + d.next(30)
			all[i] = append(all[i], ratio.Of(int64(d.next(2*most*by+1)-most*by), int64(by)))
		}
	}
	return all
}

// spans: a square table of them.
func (d *dice) spans(n int) [][]api.Span {
	all := make([][]api.Span, n)
	for i := range all {
		for range n {
			lo := int64(d.next(2000) - 1000)
			all[i] = append(all[i], of(lo, lo+int64(d.next(50)), d.next(9)-5))
		}
	}
	return all
}

// memory is where a list stands, its spare room too.
type memory struct{ from, to uintptr }

// memories: where all lists stand that something holds, or that stand in these.
func memories(v reflect.Value) []memory {
	var all []memory
	switch v.Kind() {
	case reflect.Interface, reflect.Pointer:
		if !v.IsNil() {
			all = memories(v.Elem())
		}
	case reflect.Struct:
		for i := range v.NumField() {
			all = append(all, memories(v.Field(i))...)
		}
	case reflect.Slice:
		if v.Cap() > 0 {
			from := v.Pointer()
			all = append(all, memory{from, from + uintptr(v.Cap())*v.Type().Elem().Size()})
		}
		v = v.Slice(0, v.Cap())
		for i := range v.Len() {
			all = append(all, memories(v.Index(i))...)
		}
	}
	return all
}

// shared: has one something in common with another one?
func shared(list, others []memory) bool {
	for _, a := range list {
		for _, b := range others {
			if a.from < b.to && b.from < a.to {
				return true
			}
		}
	}
	return false
}

// sharedWithin: have two of one list something in common?
func sharedWithin(list []memory) bool {
	for i := range list {
		if shared(list[:i], list[i:i+1]) {
			return true
		}
	}
	return false
}
