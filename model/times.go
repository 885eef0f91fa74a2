package model

import (
	"cmp"
	"sort"

	"girdle/api"
	"girdle/ratio"
	"girdle/vec"
)

// Steps: how many steps there are, the last one perhaps beyond the horizon;
// ErrSteps: there are too many.
func Steps(m Model) (int, api.Errno) {
	if e := checkTimes(m); e != api.OK {
		return 0, e
	}
	horizon, step := crosswise(m.Horizon, m.Step)
	n := sort.Search(MaxSteps+1, func(n int) bool {
		return compare(product(step, []uint32{uint32(n)}), horizon) >= 0
	})
	if n > MaxSteps {
		return 0, api.ErrSteps
	}
	return n, api.OK
}

// checkTimes tells whether the horizon and the step may be; ErrHorizon: one isn't
// above 0.
func checkTimes(m Model) api.Errno {
	if e := vec.Check([]api.Rat{m.Horizon, m.Step}, 2); e != api.OK {
		return e
	}
	if ratio.Sign(m.Horizon) <= 0 || ratio.Sign(m.Step) <= 0 {
		return api.ErrHorizon
	}
	return api.OK
}

// within tells whether a claim's times are from 0 on, in order, and not beyond the
// horizon.
func within(c Claim, horizon api.Rat) bool {
	return ratio.Sign(c.From) >= 0 && ratio.Sign(c.To) >= 0 && !later(c.From, c.To) && !later(c.To, horizon)
}

// later tells whether one time, from 0 on, is above another one.
func later(a, b api.Rat) bool {
	left, right := crosswise(a, b)
	return compare(left, right) > 0
}

// crosswise gives what stands above of each of two times, from 0 on, times what
// stands below of the other one. Layer 4 has no room for some of these, but which
// of two times is above the other one, and how often one goes into the other, must
// be told of all.
func crosswise(a, b api.Rat) (left, right []uint32) {
	return product(a.Num.Size, b.Den), product(b.Num.Size, a.Den)
}

// product gives the digits of two numbers times each other, the lowest first, as
// layer 1's, but however many there are, and perhaps with noughts at the end.
func product(a, b []uint32) []uint32 {
	digits := make([]uint32, len(a)+len(b))
	for i, x := range a {
		var carry uint64
		for j, y := range b {
			carry += uint64(x)*uint64(y) + uint64(digits[i+j])
			digits[i+j] = uint32(carry)
			carry >>= 32
		}
		digits[i+len(b)] = uint32(carry)
	}
	return digits
}

// compare tells by digits, the lowest first, whether a number is less, the same,
// more: -1, 0 or 1.
func compare(a, b []uint32) int {
	for i := max(len(a), len(b)) - 1; i >= 0; i-- {
		if x, y := digit(a, i), digit(b, i); x != y {
			return cmp.Compare(x, y)
		}
	}
	return 0
}

// digit gives the digit at a place; there are noughts beyond the last one.
func digit(a []uint32, at int) uint32 {
	if at < len(a) {
		return a[at]
	}
	return 0
}
