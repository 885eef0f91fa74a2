package ratio_test

import (
	"fmt"
	"math/big"
	"strings"
	"testing"

	"girdle/api"
	"girdle/digits"
	"girdle/ratio"
)

func TestText(t *testing.T) {
	for _, r := range ratios() {
		if got := ratio.Text(fromBig(r)); got != r.RatString() {
			t.Errorf("Text of %s: %s", r.RatString(), got)
		}
	}
	for _, r := range []*big.Rat{frac(ones(maxBits), small(1)), frac(small(-1), ones(maxBits)), frac(power(maxBits-1), ones(maxBits))} {
		if got := ratio.Text(fromBig(r)); got != r.RatString() {
			t.Errorf("Text of %.30s...: %.30s...", r.RatString(), got)
		}
	}
}

func TestParse(t *testing.T) {
	for s, want := range map[string]*big.Rat{
		"0": big.NewRat(0, 1), "-0": big.NewRat(0, 1), "7": big.NewRat(7, 1), "-007": big.NewRat(-7, 1),
		"1/2": big.NewRat(1, 2), "2/4": big.NewRat(1, 2), "-6/4": big.NewRat(-3, 2), "6/3": big.NewRat(2, 1), "0/7": big.NewRat(0, 1), "-0/7": big.NewRat(0, 1), "007/021": big.NewRat(1, 3),
		"0.5": big.NewRat(1, 2), "-0.25": big.NewRat(-1, 4), "-0.0": big.NewRat(0, 1), "0.0": big.NewRat(0, 1), "-1.5": big.NewRat(-3, 2), "12.50": big.NewRat(25, 2),
		"3.0": big.NewRat(3, 1), "00.10": big.NewRat(1, 10), "-00.010": big.NewRat(-1, 100), "0.3333": big.NewRat(3333, 10000), "-12.0625": big.NewRat(-193, 16),
	} {
		got, e := ratio.Parse(s)
		expect(t, "Parse of "+s, got, e, want)
	}
}

// What is written is read as it was.
func TestParseOfText(t *testing.T) {
	for _, r := range ratios() {
		got, e := ratio.Parse(ratio.Text(fromBig(r)))
		expect(t, "Parse of "+r.String(), got, e, r)
		s := r.FloatString(30)
		want, _ := new(big.Rat).SetString(s)
		got, e = ratio.Parse(s)
		expect(t, "Parse of "+s, got, e, want)
	}
}

func TestParseOfNoRatio(t *testing.T) {
	for s, want := range map[string]api.Errno{
		"": api.ErrForm, "-": api.ErrForm, "x": api.ErrForm, " 1": api.ErrForm, "+1": api.ErrForm, "1e5": api.ErrForm, "1,5": api.ErrForm,
		"/": api.ErrForm, "1/": api.ErrForm, "/1": api.ErrForm, "1/-2": api.ErrForm, "1/+2": api.ErrForm, "-/2": api.ErrForm, "1//2": api.ErrForm, "1/2/3": api.ErrForm,
		"1 /2": api.ErrForm, "1/ 2": api.ErrForm, "--1/2": api.ErrForm, "1.5/2": api.ErrForm, "1/2.5": api.ErrForm, "./.": api.ErrForm,
		".": api.ErrForm, ".5": api.ErrForm, "-.5": api.ErrForm, "1.": api.ErrForm, "1.-5": api.ErrForm, "-1.-5": api.ErrForm, "1.5.2": api.ErrForm, "1..2": api.ErrForm, "1. 5": api.ErrForm, "1.x": api.ErrForm, "x.1": api.ErrForm,
		"1/0": api.ErrZero, "0/0": api.ErrZero, "-1/00": api.ErrZero,
		"x/0": api.ErrForm, "/0": api.ErrForm, "1/0x": api.ErrForm,
	} {
		got, e := ratio.Parse(s)
		refuse(t, fmt.Sprintf("Parse of %q", s), got, e, want)
	}
}

// bigOf: the library's number of digits.
func bigOf(s string) *big.Int {
	n, _ := new(big.Int).SetString(s, 10)
	return n
}

func TestParsePairAtTheBound(t *testing.T) {
	most := strings.Repeat("7", digits.MaxDigits)
	got, e := ratio.Parse("-" + most + "/9" + most[1:])
	expect(t, "MaxDigits above and below", got, e, frac(bigOf("-"+most), bigOf("9"+most[1:])))
	for s, want := range map[string]api.Errno{
		most + "7":               api.ErrLong,
		most + "7/1":             api.ErrLong,
		"1/" + most + "7":        api.ErrLong,
		most + "7/x":             api.ErrLong, // the first one's error is ahead of the second one's
		"x/" + most + "7":        api.ErrForm,
		most + "7/0":             api.ErrLong,
		most + "x/" + most + "7": api.ErrForm,
	} {
		got, e := ratio.Parse(s)
		refuse(t, fmt.Sprintf("Parse of %d bytes, %.5s to %s", len(s), s, s[len(s)-3:]), got, e, want)
	}
}

func TestParsePlacesAtTheBound(t *testing.T) {
	places := strings.Repeat("3", ratio.MaxPlaces)
	ten := new(big.Int).Exp(small(10), small(ratio.MaxPlaces), nil)
	got, e := ratio.Parse("-0." + places)
	expect(t, "MaxPlaces", got, e, frac(bigOf("-"+places), ten))
	ahead := strings.Repeat("7", digits.MaxDigits-ratio.MaxPlaces)
	got, e = ratio.Parse("-" + ahead + "." + places)
	expect(t, "MaxPlaces, and MaxDigits in all", got, e, frac(bigOf("-"+ahead+places), ten))
	got, e = ratio.Parse("1." + strings.Repeat("0", ratio.MaxPlaces))
	expect(t, "MaxPlaces noughts", got, e, big.NewRat(1, 1))
	most := strings.Repeat("7", digits.MaxDigits)
	for s, want := range map[string]api.Errno{
		"0." + places + "3":         api.ErrLong,
		"x." + places + "3":         api.ErrLong, // that there are too many is told ahead of all else
		"0." + places + "x":         api.ErrLong,
		"." + places + ".":          api.ErrLong,
		ahead + "7." + places:       api.ErrLong, // both together have too many
		"-" + ahead + "7." + places: api.ErrLong,
		most + ".1":                 api.ErrLong,
		most + "7.1":                api.ErrLong,
		most + "7.x":                api.ErrLong, // the first one's error is ahead of the second one's
		most + ".x":                 api.ErrForm,
		most + "x.1":                api.ErrForm,
		most + ".":                  api.ErrForm,
	} {
		got, e := ratio.Parse(s)
		refuse(t, fmt.Sprintf("Parse of %d bytes, %.5s to %s", len(s), s, s[len(s)-3:]), got, e, want)
	}
}

// If there is a / and a point, the / is what counts.
func TestParseOfBoth(t *testing.T) {
	places := strings.Repeat("3", ratio.MaxPlaces)
	for _, s := range []string{"1.5/2", "1/2.5", "1." + places + "3/2", "1/2." + places + "3", "1.5/0"} {
		got, e := ratio.Parse(s)
		refuse(t, fmt.Sprintf("Parse of %.10s...", s), got, e, api.ErrForm)
	}
}
