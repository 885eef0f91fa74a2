package ratio

import (
	"girdle/api"
	"girdle/limbs"
	"girdle/whole"
)

// Add: both together; ErrLimbs: there is no room to reckon it.
func Add(a, b api.Rat) (api.Rat, api.Errno) {
	return joined(a, b, whole.Add)
}

// Sub: the first one less the second one; ErrLimbs: there is no room to reckon it.
func Sub(a, b api.Rat) (api.Rat, api.Errno) {
	return joined(a, b, whole.Sub)
}

// Mul: one times the other; ErrLimbs: there is no room to reckon it.
func Mul(a, b api.Rat) (api.Rat, api.Errno) {
	num, e := whole.Mul(a.Num, b.Num)
	if e != api.OK {
		return Zero(), e
	}
	den, e := limbs.Mul(a.Den, b.Den)
	if e != api.OK {
		return Zero(), e
	}
	return Make(num, api.Int{Size: den})
}

// Div: one divided by the other; ErrZero: by nothing; ErrLimbs: there is no room
// to reckon it.
func Div(a, b api.Rat) (api.Rat, api.Errno) {
	if Sign(b) == 0 {
		return Zero(), api.ErrZero
	}
	num, den, e := crosswise(a, b)
	if e != api.OK {
		return Zero(), e
	}
	return Make(num, den)
}

// Sum: all together, one after the other; ErrLimbs: there is no room on the way.
func Sum(list ...api.Rat) (api.Rat, api.Errno) {
	sum := Zero()
	for _, a := range list {
		var e api.Errno
		sum, e = Add(sum, a)
		if e != api.OK {
			return Zero(), e
		}
	}
	return sum, api.OK
}

// joined brings both ratios to the same number below, and joins what is above
// as told.
func joined(a, b api.Rat, join func(x, y api.Int) (api.Int, api.Errno)) (api.Rat, api.Errno) {
	left, right, e := crosswise(a, b)
	if e != api.OK {
		return Zero(), e
	}
	num, e := join(left, right)
	if e != api.OK {
		return Zero(), e
	}
	den, e := limbs.Mul(a.Den, b.Den)
	if e != api.OK {
		return Zero(), e
	}
	return Make(num, api.Int{Size: den})
}
