package series_test

import (
	"fmt"
	"math"
	"math/big"
	"testing"

	"girdle/api"
	"girdle/dyad"
	"girdle/mat"
	"girdle/ratio"
	"girdle/series"
	"girdle/span"
	"girdle/vec"
)

func TestMaxHalves(t *testing.T) {
	if series.MaxHalves != 64 {
		t.Errorf("MaxHalves: %d", series.MaxHalves)
	}
}

// The document's example: of 1 at the time 1 it holds e.
func TestMakeExample(t *testing.T) {
	e, _ := new(big.Rat).SetString("2.7182818284590452353602874713526624977572470936999595749669676277240766303535")
	for _, bits := range []int{8, 9, 60, 200} {
		p := made(t, [][]api.Rat{row(1, 1)}, ratio.Of(1, 1), bits)
		holds(t, "e", p.Exp, [][]*big.Rat{{e}}, min(bits, 250))
		holds(t, "e less 1", p.Sum, [][]*big.Rat{{new(big.Rat).Sub(e, big.NewRat(1, 1))}}, min(bits, 250))
	}
}

func TestMakeIsTrue(t *testing.T) {
	for _, x := range []struct {
		a    [][]api.Rat
		time api.Rat
	}{
		{[][]api.Rat{row(1, 1)}, ratio.Of(1, 1)},
		{[][]api.Rat{row(1, -1)}, ratio.Of(1, 2)},
		{[][]api.Rat{row(2, -1)}, ratio.Of(1, 3)},
		{[][]api.Rat{row(3, 40)}, ratio.Of(3, 2)},
		{[][]api.Rat{row(1, -50)}, ratio.Of(1, 1)},
		{[][]api.Rat{row(1, 0, -1), row(1, 1, 0)}, ratio.Of(1, 1)},
		{[][]api.Rat{row(1, 0, -1), row(1, 1, 0)}, ratio.Of(44, 1)},
		{[][]api.Rat{row(1, 0, 1), row(1, 1, 0)}, ratio.Of(1, 1000)},
		{[][]api.Rat{row(10, 1, 20), row(10, -3, 1)}, ratio.Of(5, 7)},
		{[][]api.Rat{row(1, -8, 9), row(1, 9, -8)}, ratio.Of(3, 1)},
		{[][]api.Rat{row(1, 1, 5), row(1, 0, 1)}, ratio.Of(2, 1)},
		{[][]api.Rat{row(1, 0, 1, 0), row(1, 0, 0, 1), row(1, -6, -11, -6)}, ratio.Of(2, 1)},
		{[][]api.Rat{row(1, 1, -1), row(1, 1, -1)}, ratio.Of(20, 1)},
		{[][]api.Rat{row(1, 2, -1, -1), row(1, 2, -1, -1), row(1, 2, -1, -1)}, ratio.Of(1, 1)},
	} {
		for _, bits := range []int{8, 13, 64, 300, 512} {
			isTrue(t, made(t, x.a, x.time, bits), x.a, x.time, bits)
		}
	}
}

func TestMakeOfManyIsTrue(t *testing.T) {
	d := dice(31337)
	for i := range 40 {
		a, time := d.rats(1+i%4, 1+d.next(5)), ratio.Of(int64(1+d.next(40)), int64(10+d.next(40)))
		bits := 8 + d.next(120)
		isTrue(t, made(t, a, time, bits), a, time, bits)
	}
}

// Of the most places that there may be.
func TestMakeOfMostPlaces(t *testing.T) {
	a := mat.Zero(vec.MaxDim, vec.MaxDim)
	for i := range a {
		a[i][i] = ratio.Of(int64(i), 8)
		a[i][(i+1)%len(a)] = ratio.Of(-1, 3)
		a[i][(i+5)%len(a)] = ratio.Of(1, 7)
	}
	isTrue(t, made(t, a, ratio.Of(1, 2), 24), a, ratio.Of(1, 2), 24)
}

// What is known exactly, and needs no more bits, is told exactly.
func TestMakeExactly(t *testing.T) {
	for _, x := range []struct {
		name     string
		a        [][]api.Rat
		time     api.Rat
		exp, sum [][]api.Span
	}{
		{"no places", nil, ratio.Of(1, 1), nil, nil},
		{"nothing", [][]api.Rat{row(1, 0)}, ratio.Of(3, 4), points([]int64{1}), [][]api.Span{{of(3, 3, -2)}}},
		{"no time", [][]api.Rat{row(1, 3, 5), row(1, -7, 1)}, ratio.Zero(), points([]int64{1, 0}, []int64{0, 1}), points([]int64{0, 0}, []int64{0, 0})},
		{"one power", [][]api.Rat{row(1, 0, 1), row(1, 0, 0)}, ratio.Of(3, 1), points([]int64{1, 3}, []int64{0, 1}), [][]api.Span{{of(3, 3, 0), of(9, 9, -1)}, {of(0, 0, 0), of(3, 3, 0)}}},
		{"one power below", [][]api.Rat{row(1, 0, 0), row(1, -6, 0)}, ratio.Of(1, 2), points([]int64{1, 0}, []int64{-3, 1}), [][]api.Span{{of(1, 1, -1), of(0, 0, 0)}, {of(-3, -3, -2), of(1, 1, -1)}}},
		{"2 to the power of 63", [][]api.Rat{{ratio.Zero(), two(63)}, row(1, 0, 0)}, ratio.Of(1, 1), [][]api.Span{{of(1, 1, 0), of(1, 1, 63)}, {of(0, 0, 0), of(1, 1, 0)}}, [][]api.Span{{of(1, 1, 0), of(1, 1, 62)}, {of(0, 0, 0), of(1, 1, 0)}}},
	} {
		p := made(t, x.a, x.time, 8)
		if !same(p.Exp, x.exp) || !same(p.Sum, x.sum) {
			t.Errorf("%s: %s and %s", x.name, toldSpans(p.Exp), toldSpans(p.Sum))
		}
	}
}

// Where nothing leads from one place to another one, there is just nothing.
func TestMakeOfUnlinkedPlaces(t *testing.T) {
	a := [][]api.Rat{row(3, 1, 2, 0), row(1, 0, -70, 0), row(1, 1, 0, 5)}
	p := made(t, a, ratio.Of(1, 1), 40)
	isTrue(t, p, a, ratio.Of(1, 1), 40)
	for _, at := range [][2]int{{0, 2}, {1, 0}, {1, 2}} {
		if none := (api.Span{}); !same(p.Exp[at[0]][at[1]], none) || !same(p.Sum[at[0]][at[1]], none) {
			t.Errorf("at %v: %s, %s", at, span.Text(p.Exp[at[0]][at[1]]), span.Text(p.Sum[at[0]][at[1]]))
		}
	}
}

// With more bits no span is wider, and all of them have no more bits than these.
func TestMakeWithMoreBits(t *testing.T) {
	d := dice(99)
	for range 6 {
		a := d.rats(2, 3)
		last := made(t, a, ratio.Of(5, 3), 8)
		for bits := 9; bits <= 200; bits += 1 + d.next(20) {
			p := made(t, a, ratio.Of(5, 3), bits)
			for i, row := range append(p.Exp, p.Sum...) {
				for j, x := range row {
					old := append(last.Exp, last.Sum...)[i][j]
					width, _ := span.Width(x)
					wide, _ := span.Width(old)
					if dyad.Less(wide, width) {
						t.Errorf("%s at %d, %d: with %d bits %s, wider than %s", told(a), i, j, bits, span.Text(x), span.Text(old))
					}
					if few, _ := span.Round(x, bits); !same(few, x) {
						t.Errorf("%s at %d, %d: %s has more than %d bits", told(a), i, j, span.Text(x), bits)
					}
				}
			}
			last = p
		}
	}
}

// turn: the table of a turn of so much in a second.
func turn(by api.Rat) [][]api.Rat {
	return [][]api.Rat{{ratio.Zero(), by}, {ratio.Neg(by), ratio.Zero()}}
}

// A turn stays one, however often it has to be halved: its squares come to 1.
func TestMakeOfManyHalves(t *testing.T) {
	for exp := range 64 {
		p := made(t, turn(two(exp)), ratio.Of(1, 1), 32)
		for _, row := range p.Exp {
			sum := [2]*big.Rat{new(big.Rat), new(big.Rat)}
			for _, x := range row {
				lo, hi := value(x.Lo), value(x.Hi)
				if lo.Sign() < 0 {
					lo, hi = new(big.Rat).Neg(hi), new(big.Rat).Neg(lo)
				}
				sum[0].Add(sum[0], new(big.Rat).Mul(lo, lo))
				sum[1].Add(sum[1], new(big.Rat).Mul(hi, hi))
			}
			one, little := big.NewRat(1, 1), new(big.Rat).SetFrac(big.NewInt(1), power(28))
			if sum[0].Cmp(one) > 0 || sum[1].Cmp(one) < 0 || new(big.Rat).Sub(sum[1], sum[0]).Cmp(little) > 0 {
				t.Errorf("a turn of 2 to the power of %d: %s", exp, toldSpans(p.Exp))
			}
		}
	}
}

// What comes to nothing again takes more bits than are asked for: (1 -1; 1 -1) squared is 0.
func TestMakeOfWhatComesToNothing(t *testing.T) {
	for _, exp := range []int{0, 1, 10, 30, 62} {
		n := two(exp)
		a := [][]api.Rat{{n, ratio.Neg(n)}, {n, ratio.Neg(n)}}
		p := made(t, a, ratio.Of(1, 1), 20)
		size, half := rational(n), new(big.Rat).Mul(rational(n), big.NewRat(1, 2))
		more := func(x *big.Rat, by int64) *big.Rat { return new(big.Rat).Add(x, big.NewRat(by, 1)) }
		less := func(x *big.Rat, by int64) *big.Rat { return new(big.Rat).Sub(big.NewRat(by, 1), x) }
		holds(t, fmt.Sprint("the exponential of 2^", exp), p.Exp, [][]*big.Rat{{more(size, 1), less(size, 0)}, {size, less(size, 1)}}, 20)
		holds(t, fmt.Sprint("the integral of 2^", exp), p.Sum, [][]*big.Rat{{more(half, 1), less(half, 0)}, {half, less(half, 1)}}, 20)
	}
}

// Where numbers are so far apart that layer 5 wouldn't add them.
func TestMakeOfWhatIsFarApart(t *testing.T) {
	one := ratio.Of(1, 1)
	p := made(t, [][]api.Rat{row(1, 20000, 0), row(1, 0, -20000)}, one, 64)
	// Of both together the least is at most 1, and the greatest no less.
	if lo, e := dyad.Mul(p.Exp[0][0].Lo, p.Exp[1][1].Lo); e != api.OK || dyad.Less(dyad.Of(1, 0), lo) || dyad.Less(lo, dyad.Of(1<<40-1, -40)) {
		t.Error("e to the power of 20000: the least")
	}
	if hi, e := dyad.Mul(p.Exp[0][0].Hi, p.Exp[1][1].Hi); e != api.OK || dyad.Less(hi, dyad.Of(1, 0)) || dyad.Less(dyad.Of(1<<40+1, -40), hi) {
		t.Error("e to the power of 20000: the greatest")
	}
	// e to the power of 20000 has 28854 bits, that of 45000 64922.
	for n, bits := range map[int64]int{20000: 28854, 45000: 64922} {
		x := made(t, [][]api.Rat{row(1, n, 0), row(1, 0, 0)}, one, 64).Exp
		for _, end := range []api.Dyad{x[0][0].Lo, x[0][0].Hi} {
			if size := bigOf(end.Man).BitLen() + end.Exp; size != bits {
				t.Errorf("e to the power of %d has %d bits", n, size)
			}
		}
		if !same(x[1], points([]int64{0, 1})[0]) {
			t.Errorf("beside e to the power of %d: %s", n, toldSpans(x[1:]))
		}
	}
	// Hardly any time: there is hardly any turn, but that is as sharp.
	for _, n := range []int{20, 9000, 16383} {
		x := made(t, turn(one), two(-n), 64)
		closeTo(t, fmt.Sprint("a turn for 2^-", n), x.Exp[0][1], -n)
		closeTo(t, fmt.Sprint("its time, 2^-", n), x.Sum[0][0], -n)
		closeTo(t, fmt.Sprint("its integral, 2^-", n), x.Sum[0][1], -2*n-1)
	}
}

// closeTo: is a span's each end 2 to the power of exp, but for one of 2 to the power of 30?
func closeTo(t *testing.T, what string, a api.Span, exp int) {
	t.Helper()
	for _, end := range []api.Dyad{a.Lo, a.Hi} {
		end.Exp -= exp
		away := new(big.Rat).Sub(value(end), big.NewRat(1, 1))
		if away.Abs(away).Cmp(big.NewRat(1, 1<<30)) > 0 {
			t.Errorf("%s: %s", what, away.FloatString(30))
		}
	}
}

// Numbers for which layers 4 and 5 have no room, neither to multiply nor to divide.
func TestMakeOfGreatNumbers(t *testing.T) {
	huge := ones(maxBits)
	want := made(t, turn(ratio.Of(1, 1)), ratio.Of(1, 1), 50)
	for _, x := range [][2]api.Rat{
		{part(huge), whole(huge)}, {whole(huge), part(huge)}, {part(power(maxBits - 1)), whole(power(maxBits - 1))},
	} {
		// It is the same turn in another time: the exponential is the same.
		p := made(t, turn(x[0]), x[1], 50)
		for i, row := range p.Exp {
			for j, y := range row {
				if _, e := span.Meet(y, want.Exp[i][j]); e != api.OK {
					t.Errorf("at %d, %d: %s", i, j, span.Text(y))
				}
				if width, _ := span.Width(y); dyad.Less(dyad.Of(1, -48), width) {
					t.Errorf("at %d, %d: %s is wide", i, j, span.Text(y))
				}
			}
		}
	}
	// Unlike ones in a row, whose sum has no room: the turn is by hardly more.
	a := [][]api.Rat{{part(huge), ratio.Neg(ratio.Of(1, 1))}, {ratio.Of(1, 1), part(new(big.Int).Sub(huge, big.NewInt(2)))}}
	p := made(t, a, ratio.Of(1, 1), 50)
	isTrue(t, p, [][]api.Rat{row(1, 0, -1), row(1, 1, 0)}, ratio.Of(1, 1), 50)
}

// What the exponential of a number far below 0 comes to is hardly more than nothing.
func TestMakeOfHardlyAnything(t *testing.T) {
	p := made(t, [][]api.Rat{{ratio.Neg(two(63))}}, ratio.Of(1, 1), 64)
	x, sum := p.Exp[0][0], p.Sum[0][0]
	if dyad.Sign(x.Lo) < 0 || dyad.Sign(x.Hi) <= 0 || bigOf(x.Hi.Man).BitLen()+x.Hi.Exp > -60000 {
		t.Errorf("the exponential: %v", x)
	}
	closeTo(t, "the integral", sum, -63)
}

func TestMakeRefuses(t *testing.T) {
	one, wrong := ratio.Of(1, 1), api.Rat{Num: api.Int{Size: api.Nat{2}}, Den: api.Nat{4}}
	good := [][]api.Rat{row(1, 0, 1), row(1, 1, 0)}
	for _, bits := range []int{math.MinInt, -1, 0, 7, 513, 4096, math.MaxInt} {
		p, e := series.Make(good, one, bits)
		refuse(t, fmt.Sprint(bits, " bits"), p, e, api.ErrRange)
		p, e = series.Make([][]api.Rat{row(1, 1, 2)}, one, bits)
		refuse(t, fmt.Sprint(bits, " bits, and no square"), p, e, api.ErrRange)
	}
	for _, x := range []struct {
		name string
		a    [][]api.Rat
		time api.Rat
		want api.Errno
	}{
		{"a time below 0", good, ratio.Of(-1, 1000), api.ErrRange},
		{"a time below 0, and no square", good[:1], ratio.Of(-1, 1), api.ErrRange},
		{"one row of two", good[:1], one, api.ErrShape},
		{"a short row", [][]api.Rat{row(1, 1, 2), row(1, 1)}, one, api.ErrShape},
		{"a long row", [][]api.Rat{row(1, 1, 2), row(1, 1, 2, 3)}, one, api.ErrShape},
		{"rows of none", [][]api.Rat{{}, {}}, one, api.ErrShape},
		{"too many rows", make([][]api.Rat, vec.MaxDim+1), one, api.ErrShape},
		{"a ratio that can't be", [][]api.Rat{{wrong}}, one, api.ErrForm},
		{"a ratio of too many digits", [][]api.Rat{{whole(power(maxBits))}}, one, api.ErrLimbs},
		{"a ratio that can't be, and too great a norm", [][]api.Rat{{two(70), wrong}, row(1, 1, 1)}, one, api.ErrForm},
		{"a short row behind a ratio that can't be", [][]api.Rat{{wrong, one}, row(1, 1)}, one, api.ErrForm},
	} {
		p, e := series.Make(x.a, x.time, 40)
		refuse(t, x.name, p, e, x.want)
	}
	for _, bits := range []int{8, 512} {
		if _, e := series.Make(good, one, bits); e != api.OK {
			t.Errorf("%d bits: error %d", bits, e)
		}
	}
}

// A norm of 2 to the power of 63 is halved 64 times to be a half; what is more, more often.
func TestMakeOfTooGreatNorms(t *testing.T) {
	one, zero, edge := ratio.Of(1, 1), ratio.Zero(), two(63)
	over, _ := ratio.Add(edge, two(-200))
	third, _ := ratio.Div(edge, ratio.Of(3, 1))
	less, _ := ratio.Sub(edge, one)
	huge := ones(maxBits)
	short := func(by *big.Int) api.Rat {
		return ratOf(new(big.Rat).Sub(new(big.Rat).SetInt(power(63)), rational(part(by))))
	}
	for _, x := range []struct {
		name string
		row  []api.Rat
		time api.Rat
		want api.Errno
	}{
		{"the greatest", []api.Rat{zero, edge}, one, api.OK},
		{"a bit more", []api.Rat{zero, over}, one, api.ErrRange},
		{"twice that", []api.Rat{zero, two(64)}, one, api.ErrRange},
		{"half of it for a time of 2", []api.Rat{zero, two(62)}, ratio.Of(2, 1), api.OK},
		{"half of it for a time of 3", []api.Rat{zero, two(62)}, ratio.Of(3, 1), api.ErrRange},
		{"twice that for half the time", []api.Rat{zero, two(64)}, ratio.Of(1, 2), api.OK},
		{"a third of it for a time of 3", []api.Rat{zero, third}, ratio.Of(3, 1), api.OK},
		{"a third of it for a bit more", []api.Rat{zero, third}, ratio.Of(3000000001, 1000000000), api.ErrRange},
		{"two in a row", []api.Rat{ratio.Of(-1, 1), less}, one, api.OK},
		{"two in a row, more", []api.Rat{ratio.Of(-3, 2), less}, one, api.ErrRange},
		{"much more", []api.Rat{zero, whole(huge)}, one, api.ErrRange},
		{"more than any ratio", []api.Rat{zero, whole(huge)}, whole(huge), api.ErrRange},
		{"hardly anything", []api.Rat{zero, part(huge)}, part(huge), api.OK},
		{"a sum that has no room", []api.Rat{part(power(9000)), ratio.Neg(short(power(9000)))}, one, api.OK},
		{"a sum that has no room, a bit less", []api.Rat{part(power(9000)), ratio.Neg(short(ones(9000)))}, one, api.OK},
		{"a sum that has no room, a bit more", []api.Rat{part(ones(9000)), ratio.Neg(short(power(9000)))}, one, api.ErrRange},
	} {
		// The last row is another one, so that not just one is looked at.
		a := [][]api.Rat{x.row, {zero, zero}}
		p, e := series.Make(a, x.time, 8)
		if x.want != api.OK {
			refuse(t, x.name, p, e, x.want)
		} else if e != api.OK || len(p.Exp) != 2 {
			t.Errorf("%s: error %d", x.name, e)
		}
	}
	p, e := series.Make([][]api.Rat{row(1, 0, 1), {over, zero}}, one, 8)
	refuse(t, "a second row", p, e, api.ErrRange)
	p, e = series.Make([][]api.Rat{row(1, 0, 0), {zero, ratio.Neg(over)}}, one, 8)
	refuse(t, "below 0", p, e, api.ErrRange)
}

// What is greater than any number of layer 5 is refused as that refuses it.
func TestMakeOfWhatHasNoRoom(t *testing.T) {
	for _, a := range [][][]api.Rat{{row(1, 60000)}, {{two(63)}}, {row(1, 0, 60000), row(1, 60000, 0)}, {row(1, 60000, 0), row(1, 0, 1)}} {
		p, e := series.Make(a, ratio.Of(1, 1), 64)
		refuse(t, told(a), p, e, api.ErrRange)
	}
}
