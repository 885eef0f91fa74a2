package model_test

import (
	"fmt"
	"math/big"
	"testing"

	"girdle/api"
	"girdle/model"
	"girdle/ratio"
)

// steps: does Steps answer as the library does?
func steps(t *testing.T, horizon, step *big.Rat) {
	t.Helper()
	want, wantError := int64(0), api.ErrSteps
	often := by(horizon, step)
	up := new(big.Int).Add(often.Num(), new(big.Int).Sub(often.Denom(), big.NewInt(1)))
	up.Div(up, often.Denom())
	if up.Cmp(big.NewInt(4096)) <= 0 {
		want, wantError = up.Int64(), api.OK
	}
	m := timed(ratOf(horizon), ratOf(step), ratio.Zero(), ratio.Zero())
	got, e := model.Steps(m)
	if int64(got) != want || e != wantError {
		t.Errorf("Steps of %.50s by %.50s: %d, error %d, not %d, error %d", horizon.FloatString(9), step.FloatString(9), got, e, want, wantError)
	}
	if e = model.Check(m); e != wantError {
		t.Errorf("Check of %.50s by %.50s: %d, not %d", horizon.FloatString(9), step.FloatString(9), e, wantError)
	}
}

func TestStepsByHand(t *testing.T) {
	for _, x := range []struct {
		horizon, step api.Rat
		want          int
	}{
		{ratio.Of(1, 1), ratio.Of(2, 5), 3},
		{ratio.Of(1, 1), ratio.Of(1, 3), 3},
		{ratio.Of(1, 1), ratio.Of(1, 1), 1},
		{ratio.Of(1, 1), ratio.Of(7, 1), 1},
		{ratio.Of(1, 1), ratio.Of(1000, 1001), 2},
		{ratio.Of(7, 2), ratio.Of(1, 2), 7},
		{ratio.Of(1, 1), ratio.Of(1, 4096), 4096},
		{ratio.Of(1, 1000000), ratio.Of(1, 1000000000), 1000},
	} {
		if n, e := model.Steps(timed(x.horizon, x.step, ratio.Zero(), ratio.Zero())); n != x.want || e != api.OK {
			t.Errorf("Steps of %s by %s: %d, error %d, not %d", ratio.Text(x.horizon), ratio.Text(x.step), n, e, x.want)
		}
	}
}

func TestSteps(t *testing.T) {
	for num := int64(1); num < 60; num++ {
		for den := int64(1); den < 60; den++ {
			steps(t, big.NewRat(num, 7), big.NewRat(den, 11))
		}
	}
	d := dice(2463534242)
	for range 500 {
		horizon, often := d.rat(100), d.rat(10)
		horizon.Abs(horizon)
		steps(t, horizon, by(horizon, often.Abs(often)))
	}
}

// Each number of steps, and a bit less, and a bit more.
func TestStepsAtWholeNumbers(t *testing.T) {
	bit := big.NewRat(1, 1<<40)
	for _, n := range []int64{1, 2, 3, 31, 32, 33, 1023, 1024, 2047, 2048, 4094, 4095, 4096, 4097, 5000, 1 << 32, 1<<32 + 1, 1 << 62} {
		step := big.NewRat(3, 7)
		horizon := times(step, big.NewRat(n, 1))
		steps(t, horizon, step)
		steps(t, plus(horizon, bit), step)
		steps(t, plus(horizon, new(big.Rat).Neg(bit)), step)
	}
}

// There are steps of times of any length, even if their products have no room.
func TestStepsOfLongTimes(t *testing.T) {
	small, great := frac(big.NewInt(1), ones(maxBits)), whole(ones(maxBits))
	odd := new(big.Int).Sub(ones(maxBits), big.NewInt(2))
	list := []*big.Rat{
		small, great, whole(ones(maxBits - 12)), whole(ones(maxBits - 13)), frac(big.NewInt(1), ones(maxBits-12)), frac(big.NewInt(1), ones(maxBits-13)),
		frac(ones(maxBits), power(maxBits-1)), frac(odd, power(maxBits-1)), frac(odd, power(maxBits-14)), frac(power(maxBits-1), odd), frac(power(maxBits-14), odd),
		big.NewRat(1, 1), big.NewRat(1, 3), frac(ones(maxBits/2), ones(maxBits/2-3)),
	}
	for _, horizon := range list {
		for _, step := range list {
			steps(t, horizon, step)
		}
	}
	// A number of steps, and the least bit less, or more.
	for _, n := range []int64{1, 2, 3, 4096} {
		step := frac(new(big.Int).Div(odd, big.NewInt(n)), power(maxBits-1))
		horizon := times(step, big.NewRat(n, 1))
		least := frac(big.NewInt(1), power(maxBits-1))
		steps(t, horizon, step)
		steps(t, plus(horizon, least), step)
		steps(t, plus(horizon, new(big.Rat).Neg(least)), step)
	}
}

// What can't be has no steps; and the claims and all else aren't asked.
func TestStepsOfWrongTimes(t *testing.T) {
	for _, wrong := range []api.Rat{{}, ratio.Zero(), ratio.Of(-1, 2), {Num: api.Int{Size: api.Nat{2}}, Den: api.Nat{2}}, {Num: api.Int{Size: sizeOf(ones(1 << 22))}, Den: api.Nat{1}}} {
		for i := range 2 {
			m := timed(ratio.Of(1, 1), ratio.Of(1, 2), ratio.Zero(), ratio.Zero())
			*[]*api.Rat{&m.Horizon, &m.Step}[i] = wrong
			if n, e := model.Steps(m); n != 0 || e == api.OK {
				t.Errorf("Steps of %.50v at %d: %d, error %d", wrong, i, n, e)
			}
		}
	}
	if n, e := model.Steps(model.Model{Horizon: ratio.Of(1, 1), Step: ratio.Of(1, 2)}); n != 2 || e != api.OK {
		t.Error(fmt.Sprint("Steps of nothing but times: ", n, ", error ", e))
	}
}
