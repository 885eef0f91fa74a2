package dyad

import (
	"girdle/api"
	"girdle/whole"
)

// Add: both together; ErrLimbs: there is no room at the lesser power of 2;
// ErrRange: the exponent is out of bounds.
func Add(a, b api.Dyad) (api.Dyad, api.Errno) {
	return joined(a, b, whole.Add)
}

// Sub: the first one less the second one; errors as of Add.
func Sub(a, b api.Dyad) (api.Dyad, api.Errno) {
	return joined(a, b, whole.Sub)
}

// Mul: one times the other; ErrLimbs: that has too many digits; ErrRange: the
// exponent is out of bounds.
func Mul(a, b api.Dyad) (api.Dyad, api.Errno) {
	man, e := whole.Mul(a.Man, b.Man)
	if e != api.OK {
		return api.Dyad{}, e
	}
	return Make(man, a.Exp+b.Exp)
}

// joined brings both numbers to the lesser power of 2, and joins how often that
// goes into them as told.
func joined(a, b api.Dyad, join func(x, y api.Int) (api.Int, api.Errno)) (api.Dyad, api.Errno) {
	left, right, exp, e := level(a, b)
	if e != api.OK {
		return api.Dyad{}, e
	}
	man, e := join(left, right)
	if e != api.OK {
		return api.Dyad{}, e
	}
	return Make(man, exp)
}

// level gives both numbers as whole ones times the lesser power of 2, and which
// power that is.
func level(a, b api.Dyad) (api.Int, api.Int, int, api.Errno) {
	exp := min(a.Exp, b.Exp)
	left, e := whole.Left(a.Man, a.Exp-exp)
	if e != api.OK {
		return api.Int{}, api.Int{}, 0, e
	}
	right, e := whole.Left(b.Man, b.Exp-exp)
	if e != api.OK {
		return api.Int{}, api.Int{}, 0, e
	}
	return left, right, exp, api.OK
}
