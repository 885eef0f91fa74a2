package whole_test

import (
	"fmt"
	"math"
	"math/big"
	"testing"

	"girdle/api"
	"girdle/limbs"
	"girdle/whole"
)

func TestOfTwoNumbers(t *testing.T) {
	for _, list := range [][]*big.Int{numbers(), bounds()} {
		for _, x := range list {
			for _, y := range list {
				a, b := fromBig(x), fromBig(y)
				got, e := whole.Add(a, b)
				expect(t, fmt.Sprintf("%.30s... and %.30s... together", x, y), got, e, plus(x, y))
				got, e = whole.Sub(a, b)
				expect(t, fmt.Sprintf("%.30s... less %.30s...", x, y), got, e, less(x, y))
				got, e = whole.Mul(a, b)
				expect(t, fmt.Sprintf("%.30s... times %.30s...", x, y), got, e, times(x, y))
			}
		}
	}
}

// What is more than there is room for is refused, both ways; the last that has room isn't.
func TestAtTheBound(t *testing.T) {
	most := fromBig(ones(maxBits))
	for _, sign := range []int64{1, -1} {
		a := most
		a.Minus = sign < 0
		got, e := whole.Add(a, whole.Of(sign))
		refuse(t, "one more", got, e, api.ErrLimbs)
		got, e = whole.Sub(a, whole.Of(-sign))
		refuse(t, "one more by Sub", got, e, api.ErrLimbs)
		got, e = whole.Add(a, whole.Of(-sign))
		expect(t, "one less", got, e, times(small(sign), less(ones(maxBits), small(1))))
		got, e = whole.Mul(a, whole.Of(2))
		refuse(t, "twice", got, e, api.ErrLimbs)
		got, e = whole.Mul(a, whole.Of(-1))
		expect(t, "the other way round", got, e, times(small(-sign), ones(maxBits)))
	}
}

func TestSum(t *testing.T) {
	got, e := whole.Sum()
	expect(t, "none", got, e, small(0))
	d := dice(77)
	list := numbers()
	for range 200 {
		var all []api.Int
		want := new(big.Int)
		for range d.next(9) {
			n := list[d.next(len(list))]
			all = append(all, fromBig(n))
			want.Add(want, n)
		}
		got, e = whole.Sum(all...)
		expect(t, fmt.Sprint("the sum of ", all), got, e, want)
	}
}

// It goes on from the first to the last: where there is no room on the way, it is refused.
func TestSumGoesInOrder(t *testing.T) {
	most, one := fromBig(ones(maxBits)), whole.Of(1)
	got, e := whole.Sum(most, one, whole.Of(-1))
	refuse(t, "the greatest, 1 and -1", got, e, api.ErrLimbs)
	got, e = whole.Sum(one, most, whole.Of(-1))
	refuse(t, "1, the greatest and -1", got, e, api.ErrLimbs)
	got, e = whole.Sum(most, whole.Of(-1), one)
	expect(t, "the greatest, -1 and 1", got, e, ones(maxBits))
	got, e = whole.Sum(one, whole.Of(-1), most)
	expect(t, "1, -1 and the greatest", got, e, ones(maxBits))
}

func TestDiv(t *testing.T) {
	for _, list := range [][]*big.Int{numbers(), bounds()} {
		for _, x := range list {
			for _, y := range list {
				if y.Sign() == 0 {
					continue
				}
				often, rest, e := whole.Div(fromBig(x), fromBig(y))
				q, r := new(big.Int).DivMod(x, y, new(big.Int)) // the library's is of the same sort
				what := fmt.Sprintf("%.30s... by %.30s...", x, y)
				expect(t, what, often, e, q)
				expect(t, what+", what is left", rest, e, r)
			}
		}
	}
}

func TestDivOfSmall(t *testing.T) {
	for _, x := range [][4]int64{
		{7, 2, 3, 1}, {-7, 2, -4, 1}, {7, -2, -3, 1}, {-7, -2, 4, 1}, {6, 2, 3, 0}, {-6, 2, -3, 0}, {6, -2, -3, 0}, {-6, -2, 3, 0},
		{0, 5, 0, 0}, {0, -5, 0, 0}, {1, 5, 0, 1}, {-1, 5, -1, 4}, {1, -5, 0, 1}, {-1, -5, 1, 4}, {-5, 1, -5, 0}, {5, -1, -5, 0},
	} {
		often, rest, e := whole.Div(whole.Of(x[0]), whole.Of(x[1]))
		what := fmt.Sprint(x[0], " by ", x[1])
		expect(t, what, often, e, small(x[2]))
		expect(t, what+", what is left", rest, e, small(x[3]))
	}
}

func TestDivByZero(t *testing.T) {
	for _, n := range append(numbers(), bounds()...) {
		often, rest, e := whole.Div(fromBig(n), api.Int{})
		refuse(t, n.String()+" by 0", often, e, api.ErrZero)
		refuse(t, n.String()+" by 0, what is left", rest, e, api.ErrZero)
	}
}

// shifts: how far something is shifted.
func shifts() []int {
	return []int{0, 1, 2, 3, 30, 31, 32, 33, 63, 64, 65, 96, 97, 300, 1000, maxBits - 1, maxBits, maxBits + 1, 1 << 20}
}

func TestLeftAndRight(t *testing.T) {
	for _, x := range append(numbers(), bounds()...) {
		for _, n := range shifts() {
			got, e := whole.Left(fromBig(x), n)
			expect(t, fmt.Sprintf("%.30s... shifted left by %d", x, n), got, e, new(big.Int).Lsh(x, uint(n)))
			got, e = whole.Right(fromBig(x), n)
			expect(t, fmt.Sprintf("%.30s... shifted right by %d", x, n), got, e, new(big.Int).Rsh(x, uint(n)))
		}
	}
}

func TestShiftsByTheMost(t *testing.T) {
	for _, x := range []int64{-5, -1, 0, 1, 5} {
		got, e := whole.Right(whole.Of(x), math.MaxInt)
		expect(t, fmt.Sprint(x, " shifted right"), got, e, new(big.Int).Rsh(small(x), 1000))
		got, e = whole.Left(whole.Of(x), math.MaxInt)
		if x == 0 {
			expect(t, "0 shifted left", got, e, small(0))
		} else {
			refuse(t, fmt.Sprint(x, " shifted left"), got, e, api.ErrLimbs)
		}
	}
}

func TestShiftsBelowZero(t *testing.T) {
	for _, n := range []int{-1, -2, -32, math.MinInt} {
		for _, x := range []*big.Int{small(0), small(5), small(-5), ones(maxBits), minus(ones(maxBits))} {
			got, e := whole.Left(fromBig(x), n)
			refuse(t, fmt.Sprint("Left by ", n), got, e, api.ErrRange)
			got, e = whole.Right(fromBig(x), n)
			refuse(t, fmt.Sprint("Right by ", n), got, e, api.ErrRange)
		}
	}
}

// Layer 1's errors are answered as they are.
func TestErrorsOfTheLayerBelow(t *testing.T) {
	half := fromBig(minus(power(maxBits / 2)))
	got, e := whole.Mul(half, half)
	_, want := limbs.Mul(half.Size, half.Size)
	refuse(t, "half the bits times the same", got, e, want)
	got, e = whole.Left(half, maxBits/2)
	_, want = limbs.Left(half.Size, maxBits/2)
	refuse(t, "half the bits, shifted by as many", got, e, want)
}
