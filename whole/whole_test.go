package whole_test

import (
	"fmt"
	"math"
	"math/big"
	"strings"
	"testing"

	"girdle/api"
	"girdle/digits"
	"girdle/whole"
)

func TestCheck(t *testing.T) {
	long := make(api.Nat, 513)
	long[512] = 1
	for _, x := range []struct {
		a    api.Int
		want api.Errno
	}{
		{api.Int{}, api.OK},
		{api.Int{Size: api.Nat{}}, api.OK},
		{api.Int{Size: api.Nat{5}}, api.OK},
		{api.Int{Minus: true, Size: api.Nat{5}}, api.OK},
		{api.Int{Minus: true, Size: api.Nat{0, 1}}, api.OK},
		{fromBig(ones(maxBits)), api.OK},
		{fromBig(minus(ones(maxBits))), api.OK},
		{api.Int{Minus: true}, api.ErrForm},
		{api.Int{Minus: true, Size: api.Nat{}}, api.ErrForm},
		{api.Int{Size: api.Nat{0}}, api.ErrForm},
		{api.Int{Minus: true, Size: api.Nat{0}}, api.ErrForm},
		{api.Int{Minus: true, Size: api.Nat{7, 0}}, api.ErrForm},
		{api.Int{Size: long}, api.ErrLimbs},
		{api.Int{Minus: true, Size: long}, api.ErrLimbs},
		{api.Int{Minus: true, Size: make(api.Nat, 513)}, api.ErrLimbs},
	} {
		if e := whole.Check(x.a); e != x.want {
			t.Errorf("Check of %v and %d digits: %d, not %d", x.a.Minus, len(x.a.Size), e, x.want)
		}
	}
}

func TestOf(t *testing.T) {
	for _, n := range []int64{
		0, 1, -1, 7, -7, 1<<31 - 1, 1 << 31, -1 << 31, 1<<32 - 1, 1 << 32, -1 << 32, 1<<32 + 5, -1<<32 - 5,
		math.MaxInt64, math.MaxInt64 - 1, -math.MaxInt64, math.MinInt64,
	} {
		expect(t, fmt.Sprint("Of ", n), whole.Of(n), api.OK, small(n))
	}
}

func TestNat(t *testing.T) {
	for _, n := range append(numbers(), bounds()...) {
		size := new(big.Int).Abs(n)
		expect(t, "Nat of "+size.String(), whole.Nat(sizeOf(n)), api.OK, size)
	}
}

func TestOfOneNumber(t *testing.T) {
	for _, n := range append(numbers(), bounds()...) {
		a := fromBig(n)
		if whole.Sign(a) != n.Sign() {
			t.Errorf("Sign of %s: %d", n, whole.Sign(a))
		}
		expect(t, "Neg of "+n.String(), whole.Neg(a), api.OK, minus(n))
		expect(t, "Abs of "+n.String(), whole.Abs(a), api.OK, new(big.Int).Abs(n))
		if whole.Text(a) != n.String() {
			t.Errorf("Text of %s: %s", n, whole.Text(a))
		}
	}
}

func TestCompare(t *testing.T) {
	list := append(numbers(), bounds()...)
	for _, x := range list {
		for _, y := range list {
			a, b := fromBig(x), fromBig(y)
			if got := whole.Compare(a, b); got != x.Cmp(y) {
				t.Errorf("Compare of %s and %s: %d", x, y, got)
			}
			if whole.Same(a, b) != (x.Cmp(y) == 0) {
				t.Errorf("Same of %s and %s", x, y)
			}
		}
	}
}

func TestSmall(t *testing.T) {
	for _, n := range append(numbers(), bounds()...) {
		got, e := whole.Small(fromBig(n))
		if n.IsInt64() && (got != n.Int64() || e != api.OK) {
			t.Errorf("Small of %s: %d, error %d", n, got, e)
		}
		if !n.IsInt64() && (got != 0 || e != api.ErrLimbs) {
			t.Errorf("Small of %s, which has no room: %d, error %d", n, got, e)
		}
	}
}

func TestParse(t *testing.T) {
	for _, n := range numbers() {
		got, e := whole.Parse(n.String())
		expect(t, "Parse of "+n.String(), got, e, n)
	}
	for s, want := range map[string]int64{
		"0": 0, "-0": 0, "00": 0, "-000": 0, "007": 7, "-007": -7, "12": 12, "-12": -12, "-1234567890123": -1234567890123,
	} {
		got, e := whole.Parse(s)
		expect(t, "Parse of "+s, got, e, small(want))
	}
}

func TestParseOfNoNumber(t *testing.T) {
	for _, s := range []string{
		"", "-", "--", "--1", "-+1", "+1", "+", "- 1", " -1", "-1 ", "1-", "-1-", "1.0", "-1/2", "x", "-x", "−1", "-0x1", "-\x00", "\xff",
	} {
		got, e := whole.Parse(s)
		refuse(t, fmt.Sprintf("Parse of %q", s), got, e, api.ErrForm)
	}
}

// The - isn't one of the digits that are counted, and ErrForm is ahead of ErrLong.
func TestParseAtTheBound(t *testing.T) {
	most := strings.Repeat("9", digits.MaxDigits)
	want, _ := new(big.Int).SetString(most, 10)
	got, e := whole.Parse(most)
	expect(t, "MaxDigits", got, e, want)
	got, e = whole.Parse("-" + most)
	expect(t, "MaxDigits with a -", got, e, minus(want))
	for _, s := range []string{most + "9", "-" + most + "9", "-0" + most} {
		got, e = whole.Parse(s)
		refuse(t, fmt.Sprint("Parse of ", len(s), " bytes"), got, e, api.ErrLong)
	}
	for _, s := range []string{most + "9-", "--" + most, "-" + most + "x"} {
		got, e = whole.Parse(s)
		refuse(t, fmt.Sprint("Parse of ", len(s), " bytes, one of them wrong"), got, e, api.ErrForm)
	}
}
