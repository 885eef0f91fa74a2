package series

import (
	"girdle/api"
	"girdle/dyad"
	"girdle/limbs"
	"girdle/whole"
)

// Terms: behind how many terms a sum of a table of a norm of at most a half may be
// cut off, for so many bits; and the bound of what is left: twice the next one. 0
// and 0, if these bits are out of bounds.
func Terms(bits int) (int, api.Dyad) {
	if !mayBeBits(bits) {
		return 0, api.Dyad{}
	}
	return terms(1, bits)
}

// terms gives likewise the terms of a table of a norm of at most 2 to the power of
// 0 less small, and the bound of what is left, or of what is as small as can be.
func terms(small, bits int) (int, api.Dyad) {
	factorial := limbs.Of(1)
	for k := 1; ; k++ {
		// There is room: for the most bits that are asked there are some 500 terms.
		factorial, _ = limbs.Mul(factorial, limbs.Of(uint64(k)))
		if size := small*k + limbs.Bits(factorial); size >= bits+2 {
			return k, power(max(2-size, -dyad.MaxExp))
		}
	}
}

// power gives 2 to the power of an exponent within layer 5's bounds.
func power(exp int) api.Dyad {
	a, _ := dyad.Make(whole.Of(1), exp)
	return a
}
