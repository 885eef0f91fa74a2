package ratio

import (
	"strings"

	"girdle/api"
	"girdle/digits"
	"girdle/whole"
)

// Text: what stands above, and, if that isn't 1, behind a / what stands below.
func Text(a api.Rat) string {
	if isOne(a.Den) {
		return whole.Text(a.Num)
	}
	return whole.Text(a.Num) + "/" + digits.Text(a.Den)
}

// Parse: the ratio of a text: a whole number; one with digits behind a point; or
// two with a / between. ErrForm: it is none; ErrLong: it has too many digits;
// ErrZero: by nothing.
func Parse(s string) (api.Rat, api.Errno) {
	if ahead, behind, found := strings.Cut(s, "/"); found {
		return parsePair(ahead, behind)
	}
	if ahead, behind, found := strings.Cut(s, "."); found {
		return parsePoint(ahead, behind)
	}
	a, e := whole.Parse(s)
	if e != api.OK {
		return Zero(), e
	}
	return Whole(a), api.OK
}

// parsePair gives the ratio of what stands ahead of a / and behind it.
func parsePair(ahead, behind string) (api.Rat, api.Errno) {
	num, e := whole.Parse(ahead)
	if e != api.OK {
		return Zero(), e
	}
	den, e := digits.Parse(behind)
	if e != api.OK {
		return Zero(), e
	}
	return Make(num, whole.Nat(den))
}

// parsePoint gives the ratio of what stands ahead of a point and behind it.
func parsePoint(ahead, behind string) (api.Rat, api.Errno) {
	if len(behind) > MaxPlaces {
		return Zero(), api.ErrLong
	}
	if _, e := whole.Parse(ahead); e != api.OK {
		return Zero(), e
	}
	if _, e := digits.Parse(behind); e != api.OK {
		return Zero(), e
	}
	// Read together they keep the - that 0 alone ahead of the point loses.
	num, e := whole.Parse(ahead + behind)
	if e != api.OK {
		return Zero(), e
	}
	den, _ := digits.Ten(len(behind)) // of MaxPlaces it has room
	return Make(num, whole.Nat(den))
}
