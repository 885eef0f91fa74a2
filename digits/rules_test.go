package digits_test

import (
	"math/big"
	"slices"
	"testing"

	"girdle/api"
	"girdle/digits"
	"girdle/limbs"
)

// roomy: a number with spare room behind it, all of it filled.
func roomy(a api.Nat) (api.Nat, []uint32) {
	all := append(slices.Clone(a), 77, 88, 99, 111)
	return all[:len(a)], all
}

// spoil: write over a number, and its spare room.
func spoil(a api.Nat) {
	for i := range a[:cap(a)] {
		a[:cap(a)][i] = 0xdead
	}
}

func some() []api.Nat {
	list := []api.Nat{nil}
	for _, n := range []*big.Int{
		big.NewInt(1), big.NewInt(12), big.NewInt(18), big.NewInt(1 << 40), power(64), power(100), less(power(100)), ten(40), ten(60),
	} {
		list = append(list, fromBig(n))
	}
	return list
}

func TestArgumentsStayAsTheyAre(t *testing.T) {
	for _, x := range some() {
		a, allA := roomy(x)
		wasA := slices.Clone(allA)
		if digits.Text(a) != toBig(x).String() || digits.Text(a) != toBig(x).String() || !slices.Equal(allA, wasA) {
			t.Errorf("Text of %v changed it", x)
		}
		for _, y := range some() {
			b, allB := roomy(y)
			wasB := slices.Clone(allB)
			first := digits.Gcd(a, b)
			if !slices.Equal(allA, wasA) || !slices.Equal(allB, wasB) {
				t.Fatalf("Gcd of %v and %v changed them", x, y)
			}
			if !slices.Equal(first, digits.Gcd(a, b)) {
				t.Fatalf("Gcd of %v and %v: not twice the same", x, y)
			}
		}
	}
}

// What is answered shares no memory with what was handed in, nor with what else
// is answered. (A number that is answered as it was handed in might share it;
// here none does.)
func TestAnswersAreNewMemory(t *testing.T) {
	for _, x := range some() {
		for _, y := range some() {
			a, allA := roomy(x)
			b, allB := roomy(y)
			wasA, wasB := slices.Clone(allA), slices.Clone(allB)
			got := digits.Gcd(a, b)
			want := slices.Clone(got)
			spoil(got)
			if !slices.Equal(allA, wasA) || !slices.Equal(allB, wasB) {
				t.Fatalf("Gcd of %v and %v shares memory with them", x, y)
			}
			if got = digits.Gcd(a, b); !slices.Equal(got, want) {
				t.Fatalf("Gcd of %v and %v shares memory with a later one", x, y)
			}
			spoil(allA)
			spoil(allB)
			if !slices.Equal(got, want) {
				t.Fatalf("%v and %v share memory with their Gcd", x, y)
			}
		}
	}
}

func TestTenAndParseAreNewMemory(t *testing.T) {
	for n := range 50 {
		first, _ := digits.Ten(n)
		spoil(first)
		second, e := digits.Ten(n)
		expect(t, "Ten, again", second, e, ten(n))
		s := ten(n).String()
		first, _ = digits.Parse(s)
		spoil(first)
		second, e = digits.Parse(s)
		expect(t, "Parse, again", second, e, ten(n))
	}
}

// A digit too many can't be told: better no text than that of another number.
func TestTextOfNoNumber(t *testing.T) {
	for _, n := range []*big.Int{power(maxBits), less(power(2 * maxBits))} {
		if s := digits.Text(fromBig(n)); s != "" {
			t.Errorf("Text of %d bits: %s", n.BitLen(), s)
		}
	}
}

// All calls end at what is no number, and none panics.
func TestWrongNumbers(t *testing.T) {
	list := []api.Nat{
		nil, {}, {1}, {7, 7}, fromBig(less(power(maxBits))), {0}, {0, 0}, {1, 0}, {0, 1, 0}, {5, 0, 0, 0},
		make(api.Nat, limbs.MaxLimbs), make(api.Nat, limbs.MaxLimbs+1), append(fromBig(less(power(maxBits))), 0),
		fromBig(power(maxBits)), fromBig(less(power(maxBits + 1))), fromBig(less(power(1 << 27))), fromBig(power(1 << 26)),
	}
	for _, a := range list {
		if s := digits.Text(a); limbs.Check(a) == api.OK && s != toBig(a).String() {
			t.Errorf("Text of %d digits: %s", len(a), s)
		}
		for _, b := range list {
			digits.Gcd(a, b)
		}
	}
}
