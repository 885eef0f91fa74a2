package grow_test

import (
	"encoding/binary"
	"fmt"
	"math/big"
	"reflect"

	"girdle/api"
	"girdle/limbs"
)

// maxBits is how many bits a whole number's size has at most.
const maxBits = limbs.MaxLimbs * 32

// sizeOf: the digits of one of the library's numbers.
func sizeOf(n *big.Int) api.Nat {
	a := make(api.Nat, (n.BitLen()+31)/32)
	bytes := n.FillBytes(make([]byte, 4*len(a)))
	for i := range a {
		a[len(a)-1-i] = binary.BigEndian.Uint32(bytes[4*i:])
	}
	return a
}

// bigOf: a number as one of the library's.
func bigOf(a api.Int) *big.Int {
	var bytes []byte
	for i := len(a.Size) - 1; i >= 0; i-- {
		bytes = binary.BigEndian.AppendUint32(bytes, a.Size[i])
	}
	n := new(big.Int).SetBytes(bytes)
	if a.Minus {
		n.Neg(n)
	}
	return n
}

// ratOf: one of the library's ratios, which are in lowest terms, as one of ours.
func ratOf(r *big.Rat) api.Rat {
	return api.Rat{Num: api.Int{Minus: r.Sign() < 0, Size: sizeOf(r.Num())}, Den: sizeOf(r.Denom())}
}

// rational: a ratio as one of the library's.
func rational(a api.Rat) *big.Rat {
	return new(big.Rat).SetFrac(bigOf(a.Num), bigOf(api.Int{Size: a.Den}))
}

// value: a number as one of the library's ratios.
func value(a api.Dyad) *big.Rat {
	man := bigOf(a.Man)
	if a.Exp < 0 {
		return new(big.Rat).SetFrac(man, power(-a.Exp))
	}
	return new(big.Rat).SetInt(man.Lsh(man, uint(a.Exp)))
}

// power: 2 to the power of n.
func power(n int) *big.Int { return new(big.Int).Lsh(big.NewInt(1), uint(n)) }

// ones: the greatest number of so many bits.
func ones(n int) *big.Int { return new(big.Int).Sub(power(n), big.NewInt(1)) }

// part: 1 divided by one of the library's numbers.
func part(n *big.Int) api.Rat { return ratOf(new(big.Rat).SetFrac(big.NewInt(1), n)) }

// same: are both told the same way? An empty list may be nil or not.
func same(a, b any) bool { return fmt.Sprint(a) == fmt.Sprint(b) }

// memory is where a list stands, its spare room too.
type memory struct{ from, to uintptr }

// memories: where all lists stand that something holds, or that stand in these.
func memories(v reflect.Value) []memory {
	var all []memory
	switch v.Kind() {
	case reflect.Interface, reflect.Pointer:
		if !v.IsNil() {
			all = memories(v.Elem())
		}
	case reflect.Struct:
		for i := range v.NumField() {
			all = append(all, memories(v.Field(i))...)
		}
	case reflect.Slice:
		if v.Cap() > 0 {
			from := v.Pointer()
			all = append(all, memory{from, from + uintptr(v.Cap())*v.Type().Elem().Size()})
		}
		v = v.Slice(0, v.Cap())
		for i := range v.Len() {
			all = append(all, memories(v.Index(i))...)
		}
	}
	return all
}

// shared: has one something in common with another one?
func shared(list, others []memory) bool {
	for _, a := range list {
		for _, b := range others {
			if a.from < b.to && b.from < a.to {
				return true
			}
		}
	}
	return false
}

// sharedWithin: have two of one list something in common?
func sharedWithin(list []memory) bool {
	for i := range list {
		if shared(list[:i], list[i:i+1]) {
			return true
		}
	}
	return false
}
