package digits_test

import (
	"fmt"
	"math"
	"math/big"
	"strings"
	"testing"

	"girdle/api"
	"girdle/digits"
	"girdle/limbs"
)

func TestMaxDigits(t *testing.T) {
	if digits.MaxDigits != 4900 {
		t.Errorf("MaxDigits: %d", digits.MaxDigits)
	}
}

// texts: numbers to be written and read.
func texts() []*big.Int {
	list := []*big.Int{
		big.NewInt(0), big.NewInt(1), big.NewInt(9), big.NewInt(10), big.NewInt(1<<32 - 1),
		power(32), power(64), less(power(64)), power(1000), big.NewInt(1_000_000_007),
	}
	for n := range 60 {
		list = append(list, ten(n), less(ten(n)), new(big.Int).Add(ten(n), big.NewInt(7)))
	}
	d := dice(123456789)
	for range 300 {
		list = append(list, d.big(d.next(600)))
	}
	return append(list, ten(digits.MaxDigits-1), less(ten(digits.MaxDigits)))
}

func TestText(t *testing.T) {
	for _, n := range texts() {
		if got := digits.Text(fromBig(n)); got != n.String() {
			t.Errorf("Text of %s: %s", n, got)
		}
	}
	if digits.Text(nil) != "0" || digits.Text(api.Nat{}) != "0" {
		t.Error("Text of 0")
	}
	if digits.Text(limbs.Of(1<<32)) != "4294967296" || digits.Text(api.Nat{0, 0, 1}) != "18446744073709551616" {
		t.Error("Text of 2^32, and of 2^64")
	}
}

// A text may have more digits than Parse would read.
func TestTextAtTheBound(t *testing.T) {
	for _, n := range []*big.Int{less(power(maxBits)), power(maxBits - 1), ten(digits.MaxDigits)} {
		if got := digits.Text(fromBig(n)); got != n.String() {
			t.Errorf("Text of %d bits: %.20s..., of %d digits", n.BitLen(), got, len(got))
		}
	}
}

func TestParse(t *testing.T) {
	for _, n := range texts() {
		got, e := digits.Parse(n.String())
		expect(t, "Parse of "+n.String(), got, e, n)
	}
}

func TestParseNoughtsAhead(t *testing.T) {
	for ahead := range 40 {
		noughts := strings.Repeat("0", ahead)
		got, e := digits.Parse(noughts + "123")
		expect(t, noughts+"123", got, e, big.NewInt(123))
		got, e = digits.Parse(noughts + "0")
		expect(t, noughts+"0", got, e, big.NewInt(0))
	}
}

func TestParseAtTheBound(t *testing.T) {
	for _, sign := range []string{"0", "1", "7", "9"} {
		s := strings.Repeat(sign, digits.MaxDigits)
		want, _ := new(big.Int).SetString(s, 10)
		got, e := digits.Parse(s)
		expect(t, "MaxDigits times "+sign, got, e, want)
		got, e = digits.Parse(s + "0")
		refuse(t, "one more than MaxDigits times "+sign, got, e, api.ErrLong)
	}
	got, e := digits.Parse(strings.Repeat("0", digits.MaxDigits) + "5")
	refuse(t, "noughts ahead beyond MaxDigits", got, e, api.ErrLong)
	got, e = digits.Parse(strings.Repeat("1", 1<<20))
	refuse(t, "a million digits", got, e, api.ErrLong)
}

func TestParseOfNoDigits(t *testing.T) {
	for _, s := range []string{
		"", " ", "x", "-1", "+1", "1.0", "1/2", "1 ", " 1", "1\n", "0x10", "1_000", "1e5", "\x00", "1\x00",
		"/", ":", "1/", "1:", "a", "\xff", "1\xff", "\xb1", "١", "1٢", "１", "½", "1\u0660", "−1",
		"123456789x", "x123456789", "12345678x9", "1234567890123456789-",
	} {
		got, e := digits.Parse(s)
		refuse(t, fmt.Sprintf("Parse of %q", s), got, e, api.ErrForm)
	}
	for b := range 256 {
		if b >= '0' && b <= '9' {
			continue
		}
		s := string([]byte{'7', byte(b), '7'})
		got, e := digits.Parse(s)
		refuse(t, fmt.Sprintf("Parse of %q", s), got, e, api.ErrForm)
	}
}

// ErrForm is named ahead of ErrLong.
func TestParseOrderOfErrors(t *testing.T) {
	long := strings.Repeat("1", digits.MaxDigits)
	for _, s := range []string{long + "x", "x" + long, long + "1x", "-" + long, long + long + " "} {
		got, e := digits.Parse(s)
		refuse(t, fmt.Sprintf("Parse of %d bytes, one of them no digit", len(s)), got, e, api.ErrForm)
	}
}

func TestTen(t *testing.T) {
	for n := range 300 {
		got, e := digits.Ten(n)
		expect(t, fmt.Sprint("Ten of ", n), got, e, ten(n))
	}
}

func TestTenAtTheBound(t *testing.T) {
	most := len(less(power(maxBits)).String()) - 1
	for _, n := range []int{1000, 4095, 4096, digits.MaxDigits, most - 1, most} {
		got, e := digits.Ten(n)
		expect(t, fmt.Sprint("Ten of ", n), got, e, ten(n))
	}
	for _, n := range []int{most + 1, most + 2, 5000, 9864, 1 << 14, 1 << 31, 1 << 62, math.MaxInt - 1, math.MaxInt} {
		got, e := digits.Ten(n)
		refuse(t, fmt.Sprint("Ten of ", n), got, e, api.ErrLimbs)
	}
	for _, n := range []int{-1, -2, -4900, -5000, math.MinInt} {
		got, e := digits.Ten(n)
		refuse(t, fmt.Sprint("Ten of ", n), got, e, api.ErrRange)
	}
}

// divides: is Gcd of both, either way, what the library answers?
func divides(t *testing.T, a, b *big.Int) {
	t.Helper()
	want := new(big.Int).GCD(nil, nil, a, b)
	expect(t, fmt.Sprint("Gcd of ", a, " and ", b), digits.Gcd(fromBig(a), fromBig(b)), api.OK, want)
	expect(t, fmt.Sprint("Gcd of ", b, " and ", a), digits.Gcd(fromBig(b), fromBig(a)), api.OK, want)
}

func TestGcd(t *testing.T) {
	for a := range int64(40) {
		for b := range int64(40) {
			divides(t, big.NewInt(a), big.NewInt(b))
		}
	}
	d := dice(2463534242)
	for range 400 {
		common, a, b := d.big(d.next(200)), d.big(d.next(200)), d.big(d.next(200))
		divides(t, new(big.Int).Mul(common, a), new(big.Int).Mul(common, b))
		divides(t, a, b)
		divides(t, a, a)
		divides(t, a, new(big.Int))
	}
}

func TestGcdAroundSmallNumbers(t *testing.T) {
	for _, n := range []int{31, 32, 33, 63, 64, 65, 96, 128} {
		for _, m := range []int{1, 32, 63, 64, 65, 128} {
			divides(t, power(n), power(m))
			divides(t, less(power(n)), power(m))
			divides(t, less(power(n)), less(power(m)))
		}
	}
}

func TestGcdAtTheBound(t *testing.T) {
	most := less(power(maxBits))
	d := dice(88172645463325252)
	for _, b := range []*big.Int{
		new(big.Int), big.NewInt(1), big.NewInt(3), power(maxBits - 1), most, less(power(maxBits / 2)),
		less(power(maxBits - 2)), d.big(maxBits), ten(4932),
	} {
		divides(t, most, b)
		divides(t, power(maxBits-1), b)
	}
	// Two numbers of which each goes but once into the next: none takes more steps.
	a, b := big.NewInt(1), big.NewInt(1)
	for b.BitLen() < maxBits {
		a, b = b, new(big.Int).Add(a, b)
	}
	divides(t, a, b)
}

func TestGcdOfNothing(t *testing.T) {
	for _, x := range [][2]api.Nat{{nil, nil}, {{}, {}}, {nil, {}}} {
		if got := digits.Gcd(x[0], x[1]); len(got) != 0 {
			t.Errorf("Gcd of 0 and 0: %v", got)
		}
	}
}
