package limbs_test

import (
	"math/big"
	"slices"
	"testing"

	"girdle/api"
	"girdle/limbs"
)

func TestMaxLimbs(t *testing.T) {
	if limbs.MaxLimbs != 512 {
		t.Errorf("MaxLimbs: %d", limbs.MaxLimbs)
	}
}

func TestCheck(t *testing.T) {
	noughts := func(size int) api.Nat { return make(api.Nat, size) }
	for _, x := range []struct {
		name string
		a    api.Nat
		want api.Errno
	}{
		{"0", nil, api.OK},
		{"0, not nil", api.Nat{}, api.OK},
		{"1", api.Nat{1}, api.OK},
		{"noughts below", api.Nat{0, 0, 1}, api.OK},
		{"a nought", api.Nat{0}, api.ErrForm},
		{"a nought at the end", api.Nat{1, 0}, api.ErrForm},
		{"the greatest", ones(maxBits), api.OK},
		{"MaxLimbs digits", power(maxBits - 32), api.OK},
		{"MaxLimbs noughts", noughts(limbs.MaxLimbs), api.ErrForm},
		{"one digit more", power(maxBits), api.ErrLimbs},
		{"one nought more", noughts(limbs.MaxLimbs + 1), api.ErrLimbs},
		{"one nought more at the end", append(ones(maxBits), 0), api.ErrLimbs},
	} {
		if e := limbs.Check(x.a); e != x.want {
			t.Errorf("%s: %d, not %d", x.name, e, x.want)
		}
	}
}

func TestOf(t *testing.T) {
	for _, x := range []struct {
		n    uint64
		want api.Nat
	}{
		{0, nil},
		{1, api.Nat{1}},
		{1<<32 - 1, api.Nat{1<<32 - 1}},
		{1 << 32, api.Nat{0, 1}},
		{1<<32 + 5, api.Nat{5, 1}},
		{1<<64 - 1, api.Nat{1<<32 - 1, 1<<32 - 1}},
	} {
		if got := limbs.Of(x.n); !slices.Equal(got, x.want) {
			t.Errorf("Of(%d): %v", x.n, got)
		}
		if got, e := limbs.Small(x.want); got != x.n || e != api.OK {
			t.Errorf("Small(%v): %d, error %d", x.want, got, e)
		}
	}
}

func TestSmallOfMore(t *testing.T) {
	for _, a := range []api.Nat{power(64), {0, 0, 1}, {7, 7, 7}, power(96), ones(maxBits)} {
		if n, e := limbs.Small(a); n != 0 || e != api.ErrLimbs {
			t.Errorf("Small of %d digits: %d, error %d", len(a), n, e)
		}
	}
}

func TestCompare(t *testing.T) {
	list := append(edges(), ones(maxBits), power(maxBits-1), power(maxBits-32))
	for _, a := range list {
		for _, b := range list {
			if got, want := limbs.Compare(a, b), toBig(a).Cmp(toBig(b)); got != want {
				t.Errorf("Compare(%v, %v): %d", a, b, got)
			}
		}
	}
}

func TestCompareIsOfValues(t *testing.T) {
	a := api.Nat{5, 6, 7}
	for _, x := range []struct {
		b    api.Nat
		want int
	}{
		{api.Nat{5, 6, 7}, 0},
		{api.Nat{4, 6, 7}, 1},
		{api.Nat{6, 6, 7}, -1},
		{api.Nat{9, 5, 7}, 1},
		{api.Nat{0, 7, 7}, -1},
		{api.Nat{9, 9, 6}, 1},
		{api.Nat{0, 0, 8}, -1},
		{api.Nat{9, 9}, 1},
		{api.Nat{0, 0, 0, 1}, -1},
	} {
		if got := limbs.Compare(a, x.b); got != x.want {
			t.Errorf("Compare(%v, %v): %d", a, x.b, got)
		}
	}
}

func TestBits(t *testing.T) {
	if limbs.Bits(nil) != 0 || limbs.Bits(api.Nat{}) != 0 {
		t.Error("0 has bits")
	}
	for n := 1; n <= 200; n++ {
		if got := limbs.Bits(power(n - 1)); got != n {
			t.Errorf("2^%d has %d bits", n-1, got)
		}
		if got := limbs.Bits(ones(n)); got != n {
			t.Errorf("2^%d - 1 has %d bits", n, got)
		}
	}
	if got := limbs.Bits(ones(maxBits)); got != maxBits {
		t.Errorf("the greatest has %d bits", got)
	}
}

func TestTail(t *testing.T) {
	if limbs.Tail(nil) != 0 || limbs.Tail(api.Nat{}) != 0 {
		t.Error("0 has noughts at the end")
	}
	for n := 0; n < 200; n++ {
		if got := limbs.Tail(power(n)); got != n {
			t.Errorf("2^%d has %d noughts at the end", n, got)
		}
		odd := fromBig(new(big.Int).Mul(toBig(power(n)), big.NewInt(1<<40+5)))
		if got := limbs.Tail(odd); got != n {
			t.Errorf("2^%d times an odd one has %d noughts at the end", n, got)
		}
	}
	if got := limbs.Tail(power(maxBits - 1)); got != maxBits-1 {
		t.Errorf("the greatest power has %d noughts at the end", got)
	}
	if got := limbs.Tail(ones(maxBits)); got != 0 {
		t.Errorf("the greatest has %d noughts at the end", got)
	}
}
