package tests

import (
	"math/big"
	"math/rand"
	"slices"
	"testing"

	"loop.example/integerplanner/impl"
)

// roundedUp returns a/b rounded up.
func roundedUp(a int, b int) int {
	quotient := a / b
	for quotient*b < a {
		quotient++
	}
	return quotient
}

// wantRounding returns what RoundingCut returns for a valid problem, valid weights and a valid divisor.
func wantRounding(p impl.Problem, weights []int, divisor int) (impl.Row, bool) {
	rows := wantCover(p)
	ok := true
	cut := row(impl.AtLeast, 0)
	for v := range p.Costs {
		sum := 0
		for i, r := range rows {
			sum += weights[i] * r.Coefs[v]
		}
		cut.Coefs = append(cut.Coefs, roundedUp(sum, divisor))
		ok = ok && within(cut.Coefs[v], -impl.MaxCoef, impl.MaxCoef)
	}
	sum := 0
	for i, r := range rows {
		sum += weights[i] * r.Bound
	}
	cut.Bound = roundedUp(sum, divisor)
	if !ok || !within(cut.Bound, -impl.MaxBound, impl.MaxBound) {
		return impl.Row{}, false
	}
	return cut, true
}

// cutting has weights for the cover rows of a problem, and a divisor.
type cutting struct {
	weights []int
	divisor int
}

// cuttings returns valid weights for the cover rows of a problem, and valid divisors.
func cuttings(p impl.Problem) []cutting {
	n := len(wantCover(p))
	list := []cutting{{make([]int, n), 1}, {make([]int, n), impl.MaxDivisor}, {slices.Repeat(ints(1), n), 2}, {slices.Repeat(ints(impl.MaxFactor), n), impl.MaxDivisor}, {slices.Repeat(ints(impl.MaxFactor), n), impl.MaxFactor}}
	r := numbers()
	for i := range n {
		list = append(list, cutting{changed(make([]int, n), i, 1), 1}, cutting{changed(make([]int, n), i, r.Intn(impl.MaxFactor)+1), r.Intn(7) + 1})
	}
	for range 8 {
		list = append(list, cutting{randomNumbers(r, n, 0, 2), r.Intn(6) + 1}, cutting{randomNumbers(r, n, 0, impl.MaxFactor), r.Intn(impl.MaxDivisor) + 1})
	}
	return list
}

// rowsFor returns rows that are valid for the variables of a problem, some of which hold for all of its feasible points.
func rowsFor(p impl.Problem) []impl.Row {
	n := len(p.Costs)
	list := []impl.Row{row(1, 0, make([]int, n)...), row(2, 1, make([]int, n)...), row(3, 0, make([]int, n)...)}
	r := numbers()
	x := somePoints(p)
	for k := range 6 {
		list = append(list, randomRow(r, x[k]))
	}
	rows := append(wantCover(p), p.Rows...)
	for range 6 {
		next := rows[r.Intn(len(rows))]
		list = append(list, next, row(r.Intn(3)+1, max(-99, min(99, next.Bound+r.Intn(5)-2)), next.Coefs...))
	}
	return list
}

// invalidRowsFor returns rows that are not valid for the variables of a problem.
func invalidRowsFor(p impl.Problem) []impl.Row {
	n := len(p.Costs)
	zero := make([]int, n)
	list := append(invalidRows(), row(1, 0, zero[1:]...), row(1, 0, make([]int, n+1)...), row(0, 0, zero...), row(4, 0, zero...), row(-1, 0, zero...))
	for i := range n {
		for _, v := range []int{impl.MaxCoef + 1, -impl.MaxCoef - 1, greatestInt, leastInt} {
			list = append(list, row(2, 0, changed(zero, i, v)...))
		}
	}
	for _, v := range []int{impl.MaxBound + 1, -impl.MaxBound - 1, greatestInt, leastInt} {
		list = append(list, row(1, v, zero...), row(2, v, zero...), row(3, v, zero...))
	}
	return list
}

func TestLimitsOfCuts(t *testing.T) {
	if impl.MaxFactor != 9 || impl.MaxDivisor != 99 {
		t.Error("the limits are wrong")
	}
}

func TestRoundingCut(t *testing.T) {
	made, failed := 0, 0
	for _, p := range relaxProblems() {
		for _, c := range cuttings(p) {
			want, wantOk := wantRounding(p, c.weights, c.divisor)
			if got, ok := impl.RoundingCut(p, c.weights, c.divisor); ok != wantOk || !sameRow(got, want) {
				t.Errorf("RoundingCut(%v, %v, %d) = %v, %t, want %v, %t", p, c.weights, c.divisor, got, ok, want, wantOk)
			}
			if wantOk {
				made++
			} else {
				failed++
			}
		}
	}
	if made < 1000 || failed < 500 {
		t.Errorf("%d cuts are made, and %d are not", made, failed)
	}
}

func TestRoundedRows(t *testing.T) {
	odd := problem(ints(1, 1, 1), ints(1, 1, 1), row(1, 1, 1, 1, 0), row(1, 1, 0, 1, 1), row(1, 1, 1, 0, 1))
	one := problem(ints(1, 1), ints(9, 9), row(2, 7, 5, -5), row(1, 7, 5, -5))
	nine := problem(ints(1, 1), ints(9, 9), row(2, 99, 9, -9), row(1, 99, 9, -9), row(3, 10, 1, 0))
	for _, c := range []struct {
		p       impl.Problem
		weights []int
		divisor int
		want    impl.Row
	}{
		{odd, ints(1, 1, 1, 0, 0, 0), 2, row(2, -1, -1, -1, -1)}, {odd, ints(1, 1, 1, 0, 0, 0), 1, row(2, -3, -2, -2, -2)}, {odd, ints(1, 1, 1, 0, 0, 0), 3, row(2, -1, 0, 0, 0)}, {odd, ints(1, 1, 1, 0, 0, 0), 4, row(2, 0, 0, 0, 0)}, {odd, ints(0, 0, 0, 0, 0, 0), 99, row(2, 0, 0, 0, 0)}, {odd, ints(0, 0, 0, 1, 2, 3), 2, row(2, -3, 0, -1, -1)}, {odd, ints(0, 0, 0, 1, 2, 3), 1, row(2, -6, -1, -2, -3)},
		// Positive and negative quotients are rounded up, and not without need.
		{one, ints(1, 0, 0, 0), 2, row(2, 4, 3, -2)}, {one, ints(1, 0, 0, 0), 5, row(2, 2, 1, -1)}, {one, ints(1, 0, 0, 0), 7, row(2, 1, 1, 0)}, {one, ints(1, 0, 0, 0), 99, row(2, 1, 1, 0)}, {one, ints(0, 1, 0, 0), 2, row(2, -3, -2, 3)}, {one, ints(0, 1, 0, 0), 7, row(2, -1, 0, 1)}, {one, ints(0, 1, 0, 0), 8, row(2, 0, 0, 1)}, {one, ints(9, 0, 0, 0), 9, row(2, 7, 5, -5)}, {one, ints(1, 1, 0, 0), 1, row(2, 0, 0, 0)}, {one, ints(0, 0, 9, 9), 1, row(2, -162, -9, -9)}, {one, ints(0, 0, 9, 9), 2, row(2, -81, -4, -4)},
		// Coefficients and bounds are at their limits, or behind them.
		{one, ints(2, 0, 0, 0), 1, impl.Row{}}, {one, ints(9, 0, 0, 0), 5, row(2, 13, 9, -9)}, {one, ints(9, 0, 0, 0), 4, impl.Row{}}, {one, ints(0, 9, 0, 0), 5, row(2, -12, -9, 9)}, {one, ints(0, 9, 0, 0), 4, impl.Row{}}, {one, ints(2, 0, 0, 1), 1, impl.Row{}}, {one, ints(2, 0, 1, 0), 1, impl.Row{}}, {one, ints(1, 0, 0, 4), 1, row(2, -29, 5, -9)}, {one, ints(1, 0, 0, 5), 1, impl.Row{}}, {one, ints(0, 1, 4, 0), 1, row(2, -43, -9, 5)}, {one, ints(0, 1, 5, 0), 1, impl.Row{}},
		{nine, ints(1, 0, 0, 0, 0, 0), 1, row(2, 99, 9, -9)}, {nine, ints(9, 0, 0, 0, 0, 0), 9, row(2, 99, 9, -9)}, {nine, ints(9, 0, 0, 0, 0, 0), 8, impl.Row{}}, {nine, ints(0, 1, 0, 0, 0, 0), 1, row(2, -99, -9, 9)}, {nine, ints(1, 0, 0, 1, 0, 0), 1, row(2, 89, 8, -9)}, {nine, ints(0, 0, 9, 0, 0, 0), 1, row(2, 90, 9, 0)}, {nine, ints(1, 0, 9, 0, 9, 0), 1, impl.Row{}}, {nine, ints(1, 0, 9, 0, 0, 0), 2, row(2, 95, 9, -4)}, {nine, ints(2, 0, 1, 0, 1, 0), 2, row(2, 100, 9, -9)}, {nine, ints(2, 0, 0, 0, 1, 0), 2, row(2, 95, 9, -9)}, {nine, ints(0, 2, 0, 0, 0, 1), 2, impl.Row{}},
	} {
		want := c.want
		ok := impl.ValidRow(want, len(c.p.Costs))
		if !ok {
			want = impl.Row{}
		}
		if got, made := impl.RoundingCut(c.p, c.weights, c.divisor); made != ok || !sameRow(got, want) {
			t.Errorf("RoundingCut(%v, %v, %d) = %v, %t, want %v", c.p, c.weights, c.divisor, got, made, want)
		}
	}
}

// TestBoundsOfCuts makes the bound of a cut greater and greater, with coefficients that stay valid.
func TestBoundsOfCuts(t *testing.T) {
	for bound := -99; bound <= 99; bound++ {
		for _, c := range []struct{ weight, divisor int }{{1, 1}, {2, 1}, {9, 1}, {9, 2}, {9, 8}, {9, 9}, {1, 2}, {1, 99}, {5, 4}} {
			p := problem(ints(1), ints(9), row(impl.AtLeast, bound, 1))
			want := row(impl.AtLeast, roundedUp(c.weight*bound, c.divisor), roundedUp(c.weight, c.divisor))
			valid := within(want.Bound, -99, 99)
			if !valid {
				want = impl.Row{}
			}
			if got, ok := impl.RoundingCut(p, ints(c.weight, 0), c.divisor); ok != valid || !sameRow(got, want) {
				t.Errorf("RoundingCut(%v, [%d 0], %d) = %v, %t, want %v", p, c.weight, c.divisor, got, ok, want)
			}
		}
	}
}

func TestRoundingCutWithInvalidArguments(t *testing.T) {
	check := func(p impl.Problem, weights []int, divisor int) {
		if got, ok := impl.RoundingCut(p, weights, divisor); ok || !isZero(got) {
			t.Errorf("RoundingCut(%v, %v, %d) = %v, %t", p, weights, divisor, got, ok)
		}
	}
	for _, p := range relaxProblems() {
		zero := make([]int, len(wantCover(p)))
		for _, divisor := range []int{0, -1, -2, impl.MaxDivisor + 1, greatestInt, leastInt} {
			check(p, zero, divisor)
		}
		for _, weights := range [][]int{nil, zero[1:], append(slices.Clone(zero), 0), make([]int, 1000)} {
			check(p, weights, 1)
		}
		for i := range zero {
			for _, v := range []int{-1, impl.MaxFactor + 1, greatestInt, leastInt} {
				check(p, changed(zero, i, v), impl.MaxDivisor)
			}
		}
	}
	for _, p := range invalidProblems() {
		for n := range 20 {
			check(p, make([]int, n), 1)
		}
	}
}

// wantBroken returns what CutViolated returns for a row and as many valid rational numbers as it has coefficients.
func wantBroken(r impl.Row, x []impl.Rat) bool {
	left, ok := wantSum(x, r.Coefs)
	sign := 0
	if ok {
		sign = bigOf(left).Cmp(big.NewRat(int64(r.Bound), 1))
	}
	return ok && !wantHolds(sign, r.Sense, 0)
}

// ratPoints returns points of n variables with valid rational values, which may be negative or very large.
func ratPoints(r *rand.Rand, n int) [][]impl.Rat {
	all := validRats()
	list := [][]impl.Rat{zeros(n)}
	for k := range 24 {
		x := zeros(n)
		for i := range x {
			switch {
			case k%3 == 0:
				x[i] = all[r.Intn(len(all))]
			default:
				x[i], _ = ratOf(big.NewRat(int64(r.Intn(60)-10), int64(r.Intn(6)+1)))
			}
		}
		list = append(list, x)
	}
	return list
}

func TestCutViolated(t *testing.T) {
	violated, held := 0, 0
	r := numbers()
	for _, cut := range validRows() {
		for _, x := range ratPoints(r, len(cut.Coefs)) {
			want := wantBroken(cut, x)
			if got := impl.CutViolated(cut, x); got != want {
				t.Errorf("CutViolated(%v, %v) = %t", cut, x, got)
			}
			if want {
				violated++
			} else {
				held++
			}
		}
	}
	if violated < 1000 || held < 1000 {
		t.Errorf("%d rows are violated, and %d are not", violated, held)
	}
}

func TestCutViolatedAtLimits(t *testing.T) {
	const n, d = impl.MaxNum, impl.MaxDen
	for _, c := range []struct {
		r    impl.Row
		x    [][2]int
		want bool
	}{
		{row(1, 3, 2), [][2]int{{3, 2}}, false}, {row(2, 3, 2), [][2]int{{3, 2}}, false}, {row(3, 3, 2), [][2]int{{3, 2}}, false},
		{row(1, 3, 2), [][2]int{{1500001, 1000000}}, true}, {row(2, 3, 2), [][2]int{{1500001, 1000000}}, false}, {row(3, 3, 2), [][2]int{{1500001, 1000000}}, true},
		{row(1, 3, 2), [][2]int{{1499999, 1000000}}, false}, {row(2, 3, 2), [][2]int{{1499999, 1000000}}, true}, {row(3, 3, 2), [][2]int{{1499999, 1000000}}, true},
		{row(1, -1, 1, 1), [][2]int{{-1, 2}, {-1, 2}}, false}, {row(1, -1, 1, 1), [][2]int{{-1, 2}, {-1, 3}}, true}, {row(2, -1, 1, 1), [][2]int{{-1, 2}, {-2, 3}}, true}, {row(2, 0, 0, 0), [][2]int{{n, 1}, {-n, 1}}, false}, {row(3, 1, 0, 0), [][2]int{{n, 1}, {1, d}}, true},
		// Products that are valid, or just not.
		{row(1, 99, 9), [][2]int{{n / 9, 1}}, true}, {row(1, 99, 9), [][2]int{{n/9 + 1, 1}}, false}, {row(2, 99, -9), [][2]int{{n / 9, 1}}, true}, {row(2, 99, -9), [][2]int{{n/9 + 1, 1}}, false}, {row(3, 99, 1), [][2]int{{n, 1}}, true}, {row(3, 99, 2), [][2]int{{n, 1}}, false}, {row(1, 0, 9), [][2]int{{1, d}}, true}, {row(1, 0, 8), [][2]int{{1, d}}, true},
		// Sums are too large, at first or at the end, or have too large denominators.
		{row(1, 0, 1, 1), [][2]int{{n - 1, 1}, {1, 1}}, true}, {row(1, 0, 1, 1), [][2]int{{n, 1}, {1, 1}}, false}, {row(1, 0, 1, 1, -1), [][2]int{{n, 1}, {1, 1}, {9, 1}}, false}, {row(1, 0, 1, -1, 1), [][2]int{{n, 1}, {9, 1}, {1, 1}}, true}, {row(1, 0, -1, 1, 1), [][2]int{{9, 1}, {n, 1}, {1, 1}}, true}, {row(2, 0, -1, -1, 1), [][2]int{{n, 1}, {1, 1}, {n, 1}}, false}, {row(2, 0, -1, 1, -1), [][2]int{{n, 1}, {n, 1}, {1, 1}}, true},
		{row(1, 0, 1, 1), [][2]int{{1, d}, {1, d - 1}}, false}, {row(1, 0, 1, 1), [][2]int{{1, d}, {1, d / 2}}, true}, {row(1, 0, 1, 0), [][2]int{{1, d}, {1, d - 1}}, true}, {row(1, 0, 1, 1, -1), [][2]int{{1, d}, {1, 3}, {1, 3}}, false}, {row(1, 0, 1, -1, 1), [][2]int{{1, 3}, {1, 3}, {1, d}}, true},
		// Values need not be those of points.
		{row(1, 99, 1), [][2]int{{100, 1}}, true}, {row(2, -99, 1), [][2]int{{-100, 1}}, true}, {row(2, 0, 1), [][2]int{{-1, 1}}, true},
		// There are as many values as coefficients.
		{row(2, 1, 1, 1), [][2]int{{0, 1}}, false}, {row(2, 1, 1, 1), [][2]int{{0, 1}, {0, 1}, {0, 1}}, false}, {row(2, 1, 1, 1), nil, false}, {row(2, 1, 1, 1), [][2]int{{0, 1}, {0, 1}}, true}, {row(2, 1), nil, false},
	} {
		if got := impl.CutViolated(c.r, ratsOf(c.x)); got != c.want {
			t.Errorf("CutViolated(%v, %v) = %t", c.r, c.x, got)
		}
	}
}

func TestCutViolatedWithInvalidArguments(t *testing.T) {
	for _, cut := range validRows() {
		x := zeros(len(cut.Coefs))
		for i := range x {
			for _, a := range invalidRats() {
				if impl.CutViolated(cut, changedRat(x, i, a)) {
					t.Errorf("CutViolated(%v, %v) = true", cut, changedRat(x, i, a))
				}
			}
		}
		if impl.CutViolated(cut, x[1:]) || impl.CutViolated(cut, append(x, rat(0, 1))) {
			t.Errorf("CutViolated(%v) = true for too few or too many values", cut)
		}
	}
	for _, cut := range invalidRows() {
		for n := range impl.MaxVars + 2 {
			if impl.CutViolated(cut, zeros(n)) || impl.CutViolated(cut, slices.Repeat([]impl.Rat{rat(100, 1)}, n)) {
				t.Errorf("CutViolated(%v) = true for %d values", cut, n)
			}
		}
	}
}

func TestCutHolds(t *testing.T) {
	holds, not := 0, 0
	for _, p := range smallProblems() {
		points := feasiblePoints(p)
		for _, cut := range rowsFor(p) {
			want := true
			for _, x := range points {
				want = want && wantHolds(dot(cut.Coefs, x), cut.Sense, cut.Bound)
			}
			if got := impl.CutHolds(p, cut); got != want {
				t.Errorf("CutHolds(%v, %v) = %t", p, cut, got)
			}
			if want {
				holds++
			} else {
				not++
			}
		}
	}
	if holds < 300 || not < 300 {
		t.Errorf("%d rows hold, and %d do not", holds, not)
	}
}

func TestRowsThatHold(t *testing.T) {
	p := problem(ints(1, 1), ints(3, 3), row(1, 7, 2, 2))
	none := problem(ints(1, 1), ints(3, 3), row(2, 7, 1, 1))
	for _, c := range []struct {
		p    impl.Problem
		r    impl.Row
		want bool
	}{
		// Only for points with integers the sum is at most 3.
		{p, row(1, 3, 1, 1), true}, {p, row(1, 2, 1, 1), false}, {p, row(2, 0, 1, 0), true}, {p, row(2, 1, 1, 0), false}, {p, row(3, 3, 1, 1), false}, {p, row(3, 0, 0, 0), true}, {p, row(2, 1, 0, 0), false}, {p, row(1, 3, 0, 1), true}, {p, row(1, 7, 2, 2), true},
		// Everything holds for no points at all.
		{none, row(2, 1, 0, 0), true}, {none, row(3, 99, 1, 1), true}, {none, row(1, -99, 9, 9), true}, {none, row(1, -100, 9, 9), false}, {none, row(1, 5, 1), false}, {none, row(1, 5, 1, 1, 1), false}, {none, row(4, 5, 1, 1), false}, {none, row(1, 5, 10, 1), false},
		{problem(ints(1), ints(0)), row(3, 0, 9), true}, {problem(ints(1), ints(0)), row(2, 1, 9), false},
		{problem(slices.Repeat(ints(9), 5), slices.Repeat(ints(9), 5), row(1, 8, 0, 0, 0, 0, 1)), row(1, 44, 1, 1, 1, 1, 1), true}, {problem(slices.Repeat(ints(9), 5), slices.Repeat(ints(9), 5), row(1, 8, 0, 0, 0, 0, 1)), row(1, 43, 1, 1, 1, 1, 1), false},
	} {
		if got := impl.CutHolds(c.p, c.r); got != c.want {
			t.Errorf("CutHolds(%v, %v) = %t", c.p, c.r, got)
		}
	}
}

func TestAddCut(t *testing.T) {
	added, full := 0, 0
	for _, p := range relaxProblems() {
		for _, cut := range rowsFor(p) {
			want, wantOk := with(p, cut), true
			if len(p.Rows) == impl.MaxRows {
				want, wantOk = impl.Problem{}, false
			}
			if got, ok := impl.AddCut(p, cut); ok != wantOk || !sameProblem(got, want) {
				t.Errorf("AddCut(%v, %v) = %v, %t", p, cut, got, ok)
			}
			if wantOk {
				added++
			} else {
				full++
			}
		}
	}
	if added < 500 || full < 300 {
		t.Errorf("%d rows are added, and %d are too many", added, full)
	}
}

func TestAddingAtTheLimit(t *testing.T) {
	p := problem(ints(1, 2), ints(3, 4))
	r := row(3, 99, -9, 9)
	for n := range impl.MaxRows + 2 {
		q, ok := impl.AddCut(p, r)
		if ok != (n < impl.MaxRows) {
			t.Fatalf("AddCut with %d rows = %v, %t", n, q, ok)
		}
		if !ok {
			if !noProblem(q) {
				t.Errorf("AddCut with %d rows = %v", n, q)
			}
			break
		}
		if !sameProblem(q, with(p, r)) {
			t.Errorf("AddCut(%v, %v) = %v", p, r, q)
		}
		p = q
	}
	if len(p.Rows) != impl.MaxRows {
		t.Errorf("%d rows are added", len(p.Rows))
	}
}

func TestCutsWithInvalidArguments(t *testing.T) {
	check := func(p impl.Problem, cut impl.Row) {
		if impl.CutHolds(p, cut) {
			t.Errorf("CutHolds(%v, %v) = true", p, cut)
		}
		if q, ok := impl.AddCut(p, cut); ok || !noProblem(q) {
			t.Errorf("AddCut(%v, %v) = %v, %t", p, cut, q, ok)
		}
	}
	for _, p := range edgeProblems() {
		for _, cut := range invalidRowsFor(p) {
			check(p, cut)
		}
	}
	for _, p := range invalidProblems() {
		for n := range impl.MaxVars + 2 {
			check(p, row(impl.AtMost, 99, make([]int, n)...))
		}
		check(p, impl.Row{})
	}
}

func TestP68RoundingCutsLoseNoFeasiblePoint(t *testing.T) {
	for _, p := range smallProblems() {
		for _, c := range cuttings(p) {
			cut, ok := impl.RoundingCut(p, c.weights, c.divisor)
			if ok && (!impl.CutHolds(p, cut) || cut.Sense != impl.AtLeast) {
				t.Errorf("RoundingCut(%v, %v, %d) = %v, which does not hold", p, c.weights, c.divisor, cut)
			}
		}
	}
}

func TestP69SingleRowsAreCuts(t *testing.T) {
	for _, p := range relaxProblems() {
		rows := impl.CoverRows(p)
		for i, r := range rows {
			if cut, ok := impl.RoundingCut(p, changed(make([]int, len(rows)), i, 1), 1); !ok || !sameRow(cut, r) {
				t.Errorf("RoundingCut(%v) = %v, %t, but row %d is %v", p, cut, ok, i, r)
			}
		}
	}
}

func TestP70CutsNeverLowerTheRelaxationAndKeepTheSolution(t *testing.T) {
	raised, solved := 0, 0
	for _, p := range append(smallProblems(), demandProblems()...) {
		x, cost := impl.SolveExact(p)
		value, ok := impl.RelaxValue(p)
		list := cuttings(p)
		n := len(impl.CoverRows(p))
		for i := range n {
			// Single rows, rounded, raise it most often.
			list = append(list, cutting{changed(make([]int, n), i, 1), 2}, cutting{changed(make([]int, n), i, 1), 3}, cutting{changed(make([]int, n), i, 1), 5})
		}
		for _, c := range list {
			cut, made := impl.RoundingCut(p, c.weights, c.divisor)
			q, added := impl.AddCut(p, cut)
			if !made || !added {
				continue
			}
			if y, same := impl.SolveExact(q); !slices.Equal(x, y) || same != cost {
				t.Errorf("SolveExact(%v) = %v, %d, but %v, %d with %v", p, x, cost, y, same, cut)
			}
			higher, higherOk := impl.RelaxValue(q)
			if !ok || !higherOk {
				continue
			}
			sign := impl.CompareRat(higher, value)
			if sign < 0 {
				t.Errorf("RelaxValue(%v) = %v, but %v with %v", p, value, higher, cut)
			}
			raised += sign
			solved++
		}
	}
	if raised < 50 || solved < 1000 {
		t.Errorf("%d of %d cuts raise the relaxation", raised, solved)
	}
}

func TestP71IntegerPointsViolateWhatDoesNotHold(t *testing.T) {
	held := [2]int{}
	for _, r := range validRows() {
		for _, x := range rowPoints(len(r.Coefs)) {
			var values []impl.Rat
			for _, v := range x {
				values = append(values, rat(v, 1))
			}
			holds := impl.RowHolds(r, x)
			if impl.CutViolated(r, values) == holds {
				t.Errorf("RowHolds(%v, %v) = %t, and so is CutViolated", r, x, holds)
			}
			if holds {
				held[1]++
			} else {
				held[0]++
			}
		}
	}
	if held[0] < 1000 || held[1] < 1000 {
		t.Errorf("too few rows hold or not: %v", held)
	}
}

func TestP72WhatHoldsForAllFeasiblePointsChangesNothing(t *testing.T) {
	for _, p := range smallProblems() {
		count := impl.CountFeasible(p)
		for _, cut := range rowsFor(p) {
			q, ok := impl.AddCut(p, cut)
			if !ok {
				continue
			}
			if holds, left := impl.CutHolds(p, cut), impl.CountFeasible(q); holds != (left == count) || left < 0 || left > count {
				t.Errorf("CutHolds(%v, %v) = %t, but %d of %d points are left", p, cut, holds, left, count)
			}
		}
	}
}

func TestP73AddedRowsComeLast(t *testing.T) {
	for _, p := range relaxProblems() {
		for _, cut := range rowsFor(p) {
			q, ok := impl.AddCut(p, cut)
			if !ok {
				continue
			}
			last := len(q.Rows) - 1
			if last != len(p.Rows) || !sameRow(q.Rows[last], cut) || !sameProblem(without(q, last), p) || !impl.ValidProblem(q) {
				t.Errorf("AddCut(%v, %v) = %v", p, cut, q)
			}
		}
	}
}

func TestCutsAreNotChangedAndNotShared(t *testing.T) {
	for _, p := range append(edgeProblems(), invalidProblems()...) {
		arg := spareProblem(p)
		n := len(impl.CoverRows(p))
		weights := spare(slices.Repeat(ints(1), n))
		for n := range len(p.Costs) % 7 {
			cut := impl.Row{Coefs: spare(make([]int, n+1)), Sense: impl.Equal, Bound: 1}
			x := append(zeros(n+1), rat(mark, 1))
			checkMemory(t, "a function of chapter 11", []any{arg, weights, cut, x}, func() []any {
				made, ok := impl.RoundingCut(arg, weights, 9)
				q, added := impl.AddCut(arg, cut)
				return []any{made, ok, impl.CutViolated(cut, x[:n+1]), impl.CutHolds(arg, cut), q, added}
			})
		}
	}
}
