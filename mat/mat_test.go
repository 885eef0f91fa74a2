package mat_test

import (
	"fmt"
	"math"
	"math/big"
	"testing"

	"girdle/api"
	"girdle/mat"
	"girdle/ratio"
)

// counts: how many may be asked for, and how many come.
func counts() map[int]int {
	all := map[int]int{math.MinInt: 0, -17: 0, -1: 0, 17: 16, 99: 16, math.MaxInt: 16}
	for _, n := range []int{0, 1, 2, 3, 7, 15, 16} {
		all[n] = n
	}
	return all
}

// ragged: tables with a row, first, middle or last, that is longer or shorter than the others.
func ragged() [][][]api.Rat {
	return [][][]api.Rat{
		{list(1, 2), list(3)}, {list(1), list(2, 3)}, {list(1, 2), list(3, 4), list(5)}, {list(1, 2), list(3, 4, 5), list(6, 7)}, {list(1, 2, 3), list(4, 5), list(6, 7)},
		{list(), list(1)}, {list(1), list()}, {list(1, 2), nil, list(3, 4)},
	}
}

// spansOf: a table's numbers, each alone.
func spansOf(a [][]api.Rat) [][]api.Span {
	all, e := mat.Near(a, 300)
	if e != api.OK {
		panic("a table without room")
	}
	return all
}

// blank: a table of so many rows and columns, all 1.
func blank(rows, cols int) [][]api.Rat {
	all := make([][]api.Rat, rows)
	for i := range all {
		for range cols {
			all[i] = append(all[i], ratio.Of(1, 1))
		}
	}
	return all
}

func TestZero(t *testing.T) {
	for rows, many := range counts() {
		for cols, others := range counts() {
			want := make([][]api.Rat, many)
			for i := range want {
				want[i] = list(make([]int64, others)...)
			}
			expect(t, fmt.Sprint("Zero of ", rows, " and ", cols), mat.Zero(rows, cols), api.OK, want)
		}
	}
}

func TestOne(t *testing.T) {
	for n, many := range counts() {
		want := make([][]api.Rat, many)
		for i := range want {
			row := make([]int64, many)
			row[i] = 1
			want[i] = list(row...)
		}
		expect(t, fmt.Sprint("One of ", n), mat.One(n), api.OK, want)
	}
	expect(t, "One of 2", mat.One(2), api.OK, [][]api.Rat{list(1, 0), list(0, 1)})
}

func TestCheckOfShapes(t *testing.T) {
	sizes := []int{0, 1, 2, 3, 15, 16, 17, 18}
	for _, rows := range sizes {
		for _, cols := range sizes {
			a := blank(rows, cols)
			for _, asRows := range append([]int{math.MinInt, -1, math.MaxInt}, sizes...) {
				for _, asCols := range append([]int{math.MinInt, -1, math.MaxInt}, sizes...) {
					want := api.ErrShape
					if asRows == rows && rows <= 16 && (rows == 0 || asCols == cols && cols <= 16) {
						want = api.OK
					}
					if e := mat.Check(a, asRows, asCols); e != want {
						t.Errorf("Check of %d by %d as %d by %d: %d, not %d", rows, cols, asRows, asCols, e, want)
					}
				}
			}
		}
	}
}

func TestCheckOfRows(t *testing.T) {
	form := api.Rat{Num: api.Int{Size: api.Nat{2}}, Den: api.Nat{4}}
	long := api.Rat{Num: api.Int{Size: sizeOf(power(maxBits))}, Den: api.Nat{1}}
	for _, x := range []struct {
		a    [][]api.Rat
		rows int
		want api.Errno
	}{
		{[][]api.Rat{list(1, 2), list(3, 4)}, 2, api.OK},
		{[][]api.Rat{list(1, 2), list(3)}, 2, api.ErrShape},
		{[][]api.Rat{list(1), list(2, 3)}, 2, api.ErrShape},
		{[][]api.Rat{list(1, 2), {form, ratio.Of(1, 1)}}, 2, api.ErrForm},
		{[][]api.Rat{list(1, 2), {ratio.Of(1, 1), long}}, 2, api.ErrLimbs},
		{[][]api.Rat{{form, long}, list(1, 2)}, 2, api.ErrForm},
		{[][]api.Rat{{form, form}, list(1)}, 2, api.ErrForm},
		{[][]api.Rat{list(1), {form, form}}, 2, api.ErrShape},
		{[][]api.Rat{{long, form}, {form, form}}, 2, api.ErrLimbs},
		{[][]api.Rat{{form, form}, {form, form}}, 1, api.ErrShape},
	} {
		if e := mat.Check(x.a, x.rows, 2); e != x.want {
			t.Errorf("Check of %.100v: %d, not %d", x.a, e, x.want)
		}
	}
}

func TestTurn(t *testing.T) {
	d := dice(5)
	for rows := range 6 {
		for cols := range 6 {
			a := d.rats(rows, cols, 50)
			var want [][]*big.Rat
			for j := range cols {
				var row []*big.Rat
				for i := range rows {
					row = append(row, a[i][j])
				}
				want = append(want, row)
			}
			if rows == 0 {
				want = nil
			}
			got, e := mat.Turn(ratTable(a))
			expect(t, "Turn of "+told(ratTable(a)), got, e, ratTable(want))
		}
	}
	got, e := mat.Turn([][]api.Rat{list(1, 2, 3)})
	expect(t, "Turn of a row", got, e, [][]api.Rat{list(1), list(2), list(3)})
	got, e = mat.Turn(blank(20, 18))
	expect(t, "Turn of more than a list has", got, e, blank(18, 20))
	for _, a := range ragged() {
		got, e := mat.Turn(a)
		refuse(t, "Turn of "+told(a), got, e, api.ErrShape)
	}
}

// dots: what each row of one, and each column of another one, come to.
func dots(a, b [][]*big.Rat, cols int) [][]*big.Rat {
	all := make([][]*big.Rat, len(a))
	for i, row := range a {
		for j := range cols {
			sum := new(big.Rat)
			for k, x := range row {
				sum = plus(sum, times(x, b[k][j]))
			}
			all[i] = append(all[i], sum)
		}
	}
	return all
}

func TestMulAndApply(t *testing.T) {
	d := dice(66)
	for i := range 120 {
		rows, between, cols := i%5, i/5%4, i/20%5
		a, b := d.rats(rows, between, 40), d.rats(between, cols, 40)
		if between == 0 {
			cols = 0 // what has no rows has no columns
		}
		what := " of " + told(ratTable(a)) + " and " + told(ratTable(b))
		got, e := mat.Mul(ratTable(a), ratTable(b))
		expect(t, "Mul"+what, got, e, ratTable(dots(a, b, cols)))
		x := d.rats(between, 1, 40)
		var want []*big.Rat
		for _, row := range dots(a, x, 1) {
			want = append(want, row[0])
		}
		var flat []*big.Rat
		for _, row := range x {
			flat = append(flat, row[0])
		}
		list, e := mat.Apply(ratTable(a), ratsOf(flat))
		expect(t, "Apply"+what, list, e, ratsOf(want))
	}
}

func TestByHand(t *testing.T) {
	a, b := [][]api.Rat{list(1, 2), list(3, 4)}, [][]api.Rat{list(0, 1), list(1, 0)}
	got, e := mat.Mul(a, b)
	expect(t, "Mul", got, e, [][]api.Rat{list(2, 1), list(4, 3)})
	got, e = mat.Mul(b, a)
	expect(t, "Mul, the other way round", got, e, [][]api.Rat{list(3, 4), list(1, 2)})
	quarter := [][]api.Rat{list(0, -1), list(1, 0)}
	got, e = mat.Mul(quarter, quarter)
	expect(t, "a turn by a quarter, twice", got, e, [][]api.Rat{list(-1, 0), list(0, -1)})
	got, e = mat.Mul([][]api.Rat{list(1, 2, 3)}, [][]api.Rat{list(4), list(5), list(6)})
	expect(t, "a row and a column", got, e, [][]api.Rat{list(32)})
	x, e := mat.Apply(a, list(1, -1))
	expect(t, "Apply", x, e, list(-1, -1))
	x, e = mat.Apply([][]api.Rat{{}, {}}, nil)
	expect(t, "Apply of no columns", x, e, list(0, 0))
	got, e = mat.Add(a, b)
	expect(t, "Add", got, e, [][]api.Rat{list(1, 3), list(4, 4)})
	got, e = mat.Scale(a, ratio.Of(-1, 2))
	expect(t, "Scale", got, e, [][]api.Rat{{ratio.Of(-1, 2), ratio.Of(-1, 1)}, {ratio.Of(-3, 2), ratio.Of(-2, 1)}})
}

// One times a table is that, and so is it times One.
func TestMulByOne(t *testing.T) {
	d := dice(23)
	for n := range 17 {
		a := ratTable(d.rats(n, n, 40))
		got, e := mat.Mul(mat.One(n), a)
		expect(t, "One times a table", got, e, a)
		got, e = mat.Mul(a, mat.One(n))
		expect(t, "a table times One", got, e, a)
	}
}

// Tables fit, if there are as many columns as the other one has rows; without rows there is nothing that doesn't.
func TestTablesThatDontFit(t *testing.T) {
	for rows := range 4 {
		for cols := range 4 {
			for others := range 4 {
				a := blank(rows, cols)
				fit := rows == 0 || cols == others
				what := fmt.Sprint(rows, " by ", cols, " and ", others)
				for _, width := range []int{0, 1, 3} {
					b := blank(others, width)
					got, e := mat.Mul(a, b)
					checkShape(t, "Mul of "+what, got, e, fit)
					product, e := mat.Times(spansOf(a), spansOf(b), 20)
					checkShape(t, "Times of "+what, product, e, fit)
				}
				x := list(make([]int64, others)...)
				got, e := mat.Apply(a, x)
				checkShape(t, "Apply of "+what, got, e, fit)
				on, e := mat.On(spansOf(a), spansOf([][]api.Rat{x})[0], 20)
				checkShape(t, "On of "+what, on, e, fit)
			}
		}
	}
}

func checkShape(t *testing.T, what string, got any, e api.Errno, fit bool) {
	t.Helper()
	if !fit {
		refuse(t, what, got, e, api.ErrShape)
	} else if e != api.OK {
		t.Errorf("%s: error %d", what, e)
	}
}

// Add, Plus and Holds compare lengths row by row.
func TestTablesOfUnlikeShapes(t *testing.T) {
	all := append(ragged(), nil, blank(1, 0), blank(2, 0), blank(1, 1), blank(1, 2), blank(2, 1), blank(2, 2), blank(3, 2))
	for i, a := range all {
		for j, b := range all {
			what := " of " + told(a) + " and " + told(b)
			got, e := mat.Add(a, b)
			checkShape(t, "Add"+what, got, e, i == j)
			sum, e := mat.Plus(spansOf(a), spansOf(b), 20)
			checkShape(t, "Plus"+what, sum, e, i == j)
			yes, e := mat.Holds(spansOf(a), b)
			checkShape(t, "Holds"+what, yes, e, i == j)
		}
	}
}

func TestRowsOfUnlikeLengths(t *testing.T) {
	for _, a := range ragged() {
		what := " of " + told(a)
		for n := range 4 {
			got, e := mat.Mul(a, blank(n, 2))
			refuse(t, "Mul"+what, got, e, api.ErrShape)
			got, e = mat.Mul(blank(2, len(a)), a)
			refuse(t, "Mul by those"+what, got, e, api.ErrShape)
			got, e = mat.Mul(nil, a)
			refuse(t, "Mul of no rows by those"+what, got, e, api.ErrShape)
			spans, e := mat.Times(spansOf(a), spansOf(blank(n, 2)), 20)
			refuse(t, "Times"+what, spans, e, api.ErrShape)
			spans, e = mat.Times(spansOf(blank(2, len(a))), spansOf(a), 20)
			refuse(t, "Times by those"+what, spans, e, api.ErrShape)
			x := list(make([]int64, n)...)
			row, e := mat.Apply(a, x)
			refuse(t, "Apply"+what, row, e, api.ErrShape)
			on, e := mat.On(spansOf(a), spansOf([][]api.Rat{x})[0], 20)
			refuse(t, "On"+what, on, e, api.ErrShape)
		}
	}
}

func TestAddAndScale(t *testing.T) {
	d := dice(31)
	for i := range 60 {
		a, b, by := d.rats(i%5, i%7, 60), d.rats(i%5, i%7, 60), d.rat(40)
		sum, scaled := make([][]*big.Rat, len(a)), make([][]*big.Rat, len(a))
		for i, row := range a {
			for j, x := range row {
				sum[i] = append(sum[i], plus(x, b[i][j]))
				scaled[i] = append(scaled[i], times(x, by))
			}
		}
		got, e := mat.Add(ratTable(a), ratTable(b))
		expect(t, "Add of "+told(ratTable(a))+" and "+told(ratTable(b)), got, e, ratTable(sum))
		got, e = mat.Scale(ratTable(a), ratOf(by))
		expect(t, "Scale of "+told(ratTable(a))+" by "+by.String(), got, e, ratTable(scaled))
	}
	got, e := mat.Add([][]api.Rat{list(1, 2), list(3)}, [][]api.Rat{list(4, 5), list(6)})
	expect(t, "Add of rows of unlike lengths", got, e, [][]api.Rat{list(5, 7), list(9)})
	got, e = mat.Scale([][]api.Rat{list(1, 2), {}, list(3)}, ratio.Of(2, 1))
	expect(t, "Scale of rows of unlike lengths", got, e, [][]api.Rat{list(2, 4), {}, list(6)})
}

// Where there is no room in one row, whichever it is, all is refused; but ErrShape is named ahead of that.
func TestErrorsOfTheLayerBelow(t *testing.T) {
	most := ratOf(frac(ones(maxBits), big.NewInt(1)))
	for at := range 3 {
		a, other := blank(3, 2), blank(3, 2)
		a[at][1] = most
		what := fmt.Sprint(" at ", at)
		got, e := mat.Add(a, other)
		refuse(t, "Add"+what, got, e, api.ErrLimbs)
		got, e = mat.Scale(a, ratio.Of(2, 1))
		refuse(t, "Scale"+what, got, e, api.ErrLimbs)
		got, e = mat.Mul(a, blank(2, 2))
		refuse(t, "Mul"+what, got, e, api.ErrLimbs)
		list, e := mat.Apply(a, blank(1, 2)[0])
		refuse(t, "Apply"+what, list, e, api.ErrLimbs)
		other[2] = append(other[2], ratio.Of(1, 1))
		got, e = mat.Add(a, other)
		refuse(t, "Add of unlike ones"+what, got, e, api.ErrShape)
		a[2] = a[2][1:]
		a[0][0] = most
		got, e = mat.Mul(a, [][]api.Rat{{most}, {most}})
		refuse(t, "Mul of unlike rows"+what, got, e, api.ErrShape)
		got, e = mat.Mul([][]api.Rat{{most, most, most}}, a)
		refuse(t, "Mul by unlike rows"+what, got, e, api.ErrShape)
		list, e = mat.Apply(a, []api.Rat{most, most})
		refuse(t, "Apply of unlike rows"+what, list, e, api.ErrShape)
	}
}

func TestNorm(t *testing.T) {
	d := dice(8)
	for i := range 60 {
		a := d.rats(i%5, i%7, 60)
		want := new(big.Rat)
		for _, row := range a {
			sum := new(big.Rat)
			for _, x := range row {
				sum = plus(sum, new(big.Rat).Abs(x))
			}
			if sum.Cmp(want) > 0 {
				want = sum
			}
		}
		got, e := mat.Norm(ratTable(a))
		expect(t, "Norm of "+told(ratTable(a)), got, e, ratOf(want))
	}
	for _, x := range []struct {
		a    [][]api.Rat
		want int64
	}{
		{nil, 0}, {[][]api.Rat{{}, {}}, 0}, {[][]api.Rat{list(1, -5), list(2, 2)}, 6}, {[][]api.Rat{list(2, 2), list(1, -5)}, 6}, {[][]api.Rat{list(-3)}, 3},
		{[][]api.Rat{list(1, 2), list(1, 1, 2), list(3)}, 4}, {[][]api.Rat{{}, list(7), {}}, 7}, {[][]api.Rat{list(-4, 4), list(1)}, 8},
	} {
		got, e := mat.Norm(x.a)
		expect(t, "Norm of "+told(x.a), got, e, ratio.Of(x.want, 1))
	}
}

func TestNormWithoutRoom(t *testing.T) {
	most := ratOf(frac(ones(maxBits), big.NewInt(1)))
	for at := range 3 {
		a := blank(3, 2)
		a[at][0] = most
		got, e := mat.Norm(a)
		refuse(t, fmt.Sprint("Norm, a sum without room at ", at), got, e, api.ErrLimbs)
		a[at] = []api.Rat{ratio.Zero(), most}
		got, e = mat.Norm(a)
		expect(t, fmt.Sprint("Norm, a sum with room at ", at), got, e, most)
	}
	got, e := mat.Norm([][]api.Rat{{most}, {ratio.Of(1, 2)}})
	refuse(t, "Norm, sums that can't be compared", got, e, api.ErrLimbs)
}
