package tests

import (
	"math/rand"
	"slices"
	"testing"

	"loop.example/integerplanner/impl"
)

func problem(costs []int, uppers []int, rows ...impl.Row) impl.Problem {
	return impl.Problem{Costs: costs, Uppers: uppers, Rows: rows}
}

// clone returns a copy of a problem without spare capacity.
func clone(p impl.Problem) impl.Problem {
	q := problem(slices.Clone(p.Costs), slices.Clone(p.Uppers))
	for _, r := range p.Rows {
		q.Rows = append(q.Rows, row(r.Sense, r.Bound, slices.Clone(r.Coefs)...))
	}
	return q
}

// spareProblem returns a copy of a problem with marks in the spare capacity of all slices.
func spareProblem(p impl.Problem) impl.Problem {
	q := problem(spare(p.Costs), spare(p.Uppers))
	rows := make([]impl.Row, 0, len(p.Rows)+2)
	for _, r := range p.Rows {
		rows = append(rows, impl.Row{Coefs: spare(r.Coefs), Sense: r.Sense, Bound: r.Bound})
	}
	for i := range rows[len(rows):cap(rows)] {
		rows[:cap(rows)][len(rows)+i].Bound = mark
	}
	q.Rows = rows
	return q
}

// without returns a problem without one of its rows.
func without(p impl.Problem, row int) impl.Problem {
	q := clone(p)
	q.Rows = slices.Delete(q.Rows, row, row+1)
	return q
}

// with returns a problem with more rows at the end.
func with(p impl.Problem, rows ...impl.Row) impl.Problem {
	q := clone(p)
	q.Rows = append(q.Rows, rows...)
	return q
}

func sameProblem(a impl.Problem, b impl.Problem) bool {
	return slices.Equal(a.Costs, b.Costs) && slices.Equal(a.Uppers, b.Uppers) && slices.EqualFunc(a.Rows, b.Rows, sameRow)
}

// noProblem reports whether a problem is the zero value, nil or empty.
func noProblem(p impl.Problem) bool {
	return sameProblem(p, impl.Problem{})
}

// randomRow returns a row near the left side that its coefficients have at a point, or far from it.
func randomRow(r *rand.Rand, x []int) impl.Row {
	coefs := make([]int, len(x))
	for i := range coefs {
		if r.Intn(3) > 0 {
			coefs[i] = r.Intn(2*impl.MaxCoef+1) - impl.MaxCoef
		}
	}
	sense, bound := r.Intn(3)+1, dot(coefs, x)
	switch {
	case r.Intn(8) == 0:
		bound = r.Intn(2*impl.MaxBound+1) - impl.MaxBound
	case sense == impl.AtMost:
		bound += r.Intn(12) - 1
	case sense == impl.AtLeast:
		bound -= r.Intn(12) - 1
	}
	return row(sense, max(-impl.MaxBound, min(impl.MaxBound, bound)), coefs...)
}

// edgeProblems returns problems at the limits, without rows, and with rows
// whose coefficients are all 0 or that exclude each other.
func edgeProblems() []impl.Problem {
	return []impl.Problem{
		problem(ints(0), ints(0)), problem(ints(99), ints(9)), problem(ints(3, 2), ints(4, 4)), problem(ints(1, 2, 3), ints(0, 0, 0)),
		problem(ints(99, 99, 99, 99, 99), ints(9, 9, 9, 9, 9), row(1, 99, 9, 9, 9, 9, 9), row(2, -99, -9, -9, -9, -9, -9), row(3, 99, 9, 9, 9, 9, 9), row(1, 0, 0, 0, 0, 0, 0), row(2, 0, 0, 0, 0, 0, 0), row(3, 0, 0, 0, 0, 0, 0)),
		problem(ints(0, 1), ints(2, 3), row(1, -1, 0, 0)), problem(ints(0, 1), ints(2, 3), row(2, 1, 0, 0)), problem(ints(0, 1), ints(2, 3), row(3, 1, 0, 0)), problem(ints(0, 1), ints(2, 3), row(3, -1, 0, 0)),
		problem(ints(0, 1), ints(2, 3), row(1, 0, 0, 0), row(2, 0, 0, 0), row(3, 0, 0, 0)), problem(ints(0, 1), ints(2, 3), row(1, 99, 0, 0), row(2, -99, 0, 0)),
		problem(ints(1), ints(9), row(3, 6, 3)), problem(ints(1), ints(9), row(3, 7, 2)), problem(ints(5), ints(0), row(2, 0, 9), row(1, 0, 9), row(3, 0, -9)), problem(ints(5), ints(0), row(2, 1, 9)),
		problem(ints(3, 2), ints(4, 4), row(2, 5, 2, 1), row(1, 4, 1, 1)), problem(ints(1, 1), ints(9, 9), row(1, 4, 1, 1), row(2, 5, 1, 1)),
		problem(ints(2, 0, 1), ints(5, 5, 5), row(1, -7, -2, -3, 0), row(2, -7, 2, -3, 4), row(3, -1, 1, -1, 0)),
	}
}

// validProblems returns problems of all sizes, with and without feasible points.
func validProblems() []impl.Problem {
	list := edgeProblems()
	r := numbers()
	for n := range 150 {
		var p impl.Problem
		var x []int
		for range n%impl.MaxVars + 1 {
			p.Costs = append(p.Costs, r.Intn(impl.MaxCost+1))
			p.Uppers = append(p.Uppers, r.Intn(impl.MaxUpper+1))
			x = append(x, r.Intn(p.Uppers[len(x)]+1))
		}
		for range r.Intn(impl.MaxRows + 1) {
			p.Rows = append(p.Rows, randomRow(r, x))
		}
		list = append(list, p)
	}
	return list
}

// invalidProblems returns problems with one fault each.
func invalidProblems() []impl.Problem {
	five := func(v int) []int { return slices.Repeat(ints(v), 5) }
	base := problem(five(1), five(2), slices.Repeat([]impl.Row{row(1, 99, five(1)...)}, impl.MaxRows)...)
	list := []impl.Problem{
		{}, problem(nil, nil, row(1, 1)), problem(nil, ints(1)), problem(ints(1), nil), problem(ints(1), ints(1, 1)), problem(ints(1, 1), ints(1)),
		problem(slices.Repeat(ints(1), 6), slices.Repeat(ints(1), 6)), problem(slices.Repeat(ints(1), 6), five(1)), problem(five(1), slices.Repeat(ints(1), 6)),
		problem(slices.Repeat(ints(0), 1000), slices.Repeat(ints(0), 1000)), with(base, row(1, 99, five(1)...)), problem(ints(1), ints(1), slices.Repeat([]impl.Row{row(1, 1, 1)}, 100)...),
		problem(ints(1, 1), ints(1, 1), row(1, 1, 1)), problem(ints(1), ints(1), row(1, 1, 1, 1)), problem(ints(1), ints(1), impl.Row{}),
		problem(ints(1, 1), ints(1, 1), row(1, 1, 1, 1), row(2, 1, 1)), problem(ints(1, 1), ints(1, 1), row(1, 1, 1, 1, 0)),
	}
	for _, i := range []int{0, 2, 4} {
		for _, v := range []int{-1, impl.MaxCost + 1, greatestInt, leastInt} {
			list = append(list, problem(changed(base.Costs, i, v), base.Uppers, base.Rows...))
		}
		for _, v := range []int{-1, impl.MaxUpper + 1, greatestInt, leastInt} {
			list = append(list, problem(base.Costs, changed(base.Uppers, i, v), base.Rows...))
		}
	}
	for _, i := range []int{0, 3, 5} {
		for _, r := range []impl.Row{row(1, 99, 1, 1, 1, 1), row(1, 99, 10, 1, 1, 1, 1), row(1, 99, 1, 1, 1, 1, -10), row(0, 99, five(1)...), row(4, 99, five(1)...), row(1, 100, five(1)...), row(2, -100, five(1)...), row(1, 99, slices.Repeat(ints(1), 6)...)} {
			p := clone(base)
			p.Rows[i] = r
			list = append(list, p)
		}
	}
	return list
}

// pointsBetween returns all points between two corners, in lexicographic order.
func pointsBetween(low []int, high []int) [][]int {
	list := [][]int{{}}
	for i := range low {
		var longer [][]int
		for _, x := range list {
			for v := low[i]; v <= high[i]; v++ {
				longer = append(longer, append(slices.Clone(x), v))
			}
		}
		list = longer
	}
	return list
}

// pointsOf returns all points of a problem.
func pointsOf(p impl.Problem) [][]int {
	return pointsBetween(make([]int, len(p.Uppers)), p.Uppers)
}

// somePoints returns the corners and other points of a problem.
func somePoints(p impl.Problem) [][]int {
	list := [][]int{make([]int, len(p.Uppers)), slices.Clone(p.Uppers)}
	r := numbers()
	for range 30 {
		x := make([]int, len(p.Uppers))
		for i := range x {
			x[i] = r.Intn(p.Uppers[i] + 1)
		}
		list = append(list, x)
	}
	return list
}

// noPoints returns what is not a point of a valid problem.
func noPoints(p impl.Problem) [][]int {
	zero := make([]int, len(p.Uppers))
	list := [][]int{nil, zero[1:], append(slices.Clone(zero), 0), append(slices.Clone(p.Uppers), 0), slices.Repeat(ints(0), 1000)}
	for i, u := range p.Uppers {
		for _, v := range []int{-1, u + 1, greatestInt, leastInt} {
			list = append(list, changed(zero, i, v), changed(p.Uppers, i, v))
		}
	}
	return list
}

// wantViolated returns the rows of a valid problem that do not hold for one of its points.
func wantViolated(p impl.Problem, x []int) []int {
	var list []int
	for i, r := range p.Rows {
		if !wantHolds(dot(r.Coefs, x), r.Sense, r.Bound) {
			list = append(list, i)
		}
	}
	return list
}

// feasiblePoints returns all feasible points of a valid problem.
func feasiblePoints(p impl.Problem) [][]int {
	return slices.DeleteFunc(pointsOf(p), func(x []int) bool { return len(wantViolated(p, x)) > 0 })
}

func TestLimitsOfProblems(t *testing.T) {
	if impl.MaxCost != 99 || impl.MaxRows != 6 || impl.MaxVars != 5 || impl.MaxUpper != 9 || impl.MaxBound != 99 {
		t.Error("the limits are wrong")
	}
}

func TestValidProblem(t *testing.T) {
	for _, p := range validProblems() {
		if !impl.ValidProblem(p) {
			t.Errorf("ValidProblem(%v) = false", p)
		}
	}
	for _, p := range invalidProblems() {
		if impl.ValidProblem(p) {
			t.Errorf("ValidProblem(%v) = true", p)
		}
	}
}

// TestSomeProblemsHaveNoFeasiblePoint shows that the problems of the other tests are of both kinds.
func TestSomeProblemsHaveNoFeasiblePoint(t *testing.T) {
	some, none := 0, 0
	for _, p := range validProblems() {
		if len(feasiblePoints(p)) > 0 {
			some++
		} else {
			none++
		}
	}
	if some < 40 || none < 40 {
		t.Errorf("%d problems with and %d without feasible points", some, none)
	}
}

func TestPointsOfAProblem(t *testing.T) {
	p := problem(ints(3, 2), ints(4, 4), row(2, 5, 2, 1), row(1, 4, 1, 1))
	for _, c := range []struct {
		x        []int
		feasible bool
		cost     int
		violated []int
	}{
		{ints(1, 3), true, 9, nil}, {ints(4, 0), true, 12, nil}, {ints(4, 1), false, 14, ints(1)}, {ints(0, 4), false, 8, ints(0)}, {ints(0, 0), false, 0, ints(0)},
		{ints(4, 4), false, 20, ints(1)}, {ints(5, 0), false, -1, nil}, {ints(1, 5), false, -1, nil}, {ints(-1, 4), false, -1, nil}, {ints(1), false, -1, nil}, {ints(1, 3, 0), false, -1, nil}, {nil, false, -1, nil},
	} {
		if f, n, v := impl.Feasible(p, c.x), impl.CostOf(p, c.x), impl.Violated(p, c.x); f != c.feasible || n != c.cost || !slices.Equal(v, c.violated) {
			t.Errorf("at %v: %t, %d, %v", c.x, f, n, v)
		}
	}
	q := problem(ints(99, 0, 99, 99, 99), ints(9, 9, 9, 9, 9), row(1, 0, 0, 0, 0, 0, 1), row(2, 1, 0, 0, 0, 0, 0), row(3, 81, 9, 0, 0, 0, 0), row(3, 9, 9, 0, 0, 0, 0), row(1, -1, 0, 0, 0, 0, 0), row(2, -81, 0, -9, 0, 0, 0))
	nines := ints(9, 9, 9, 9, 9)
	if n, v := impl.CostOf(q, nines), impl.Violated(q, nines); n != 3564 || !slices.Equal(v, ints(0, 1, 3, 4)) {
		t.Errorf("CostOf and Violated = %d, %v", n, v)
	}
}

func TestFeasibleCostOfAndViolated(t *testing.T) {
	for _, p := range validProblems() {
		for _, x := range somePoints(p) {
			want := wantViolated(p, x)
			if got := impl.Feasible(p, x); got != (len(want) == 0) {
				t.Errorf("Feasible(%v, %v) = %t", p, x, got)
			}
			if got := impl.Violated(p, x); !slices.Equal(got, want) {
				t.Errorf("Violated(%v, %v) = %v, want %v", p, x, got, want)
			}
			if got := impl.CostOf(p, x); got != dot(p.Costs, x) {
				t.Errorf("CostOf(%v, %v) = %d", p, x, got)
			}
		}
	}
}

func TestProblemsWithInvalidArguments(t *testing.T) {
	check := func(p impl.Problem, x []int) {
		if f, n, v := impl.Feasible(p, x), impl.CostOf(p, x), impl.Violated(p, x); f || n != -1 || len(v) > 0 {
			t.Errorf("%v at %v: %t, %d, %v", p, x, f, n, v)
		}
	}
	for _, p := range validProblems() {
		for _, x := range noPoints(p) {
			check(p, x)
		}
	}
	for _, p := range invalidProblems() {
		for n := range impl.MaxVars + 2 {
			check(p, make([]int, n))
			check(p, slices.Repeat(ints(1), n))
		}
		if n := impl.CountFeasible(p); n != -1 {
			t.Errorf("CountFeasible(%v) = %d", p, n)
		}
	}
}

func TestCountFeasible(t *testing.T) {
	for _, p := range validProblems() {
		if got, want := impl.CountFeasible(p), len(feasiblePoints(p)); got != want {
			t.Errorf("CountFeasible(%v) = %d, want %d", p, got, want)
		}
	}
	nines := slices.Repeat(ints(9), 5)
	for _, c := range []struct {
		p    impl.Problem
		want int
	}{
		{problem(ints(1), ints(9), row(3, 6, 3)), 1}, {problem(ints(1), ints(9), row(3, 7, 3)), 0}, {problem(ints(0), ints(0)), 1}, {problem(ints(0), ints(0), row(2, 1, 9)), 0},
		{problem(nines, nines), 100000}, {problem(nines, nines, row(2, 45, 1, 1, 1, 1, 1)), 1}, {problem(nines, nines, row(2, 44, 1, 1, 1, 1, 1)), 6}, {problem(nines, nines, row(1, 0, 1, 1, 1, 1, 1)), 1},
		{problem(ints(1, 2), ints(3, 5), row(1, 0, 0, 0)), 24}, {problem(ints(1, 2), ints(3, 5), row(1, -1, 0, 0)), 0}, {problem(ints(1, 2), ints(3, 5), row(1, 0, 1, -1)), 18}, {problem(ints(3, 2), ints(4, 4), row(2, 5, 2, 1), row(1, 4, 1, 1)), 6},
	} {
		if got := impl.CountFeasible(c.p); got != c.want {
			t.Errorf("CountFeasible(%v) = %d, want %d", c.p, got, c.want)
		}
	}
}

func TestP29RowsCanBeLeftOut(t *testing.T) {
	for _, p := range validProblems() {
		for i := range p.Rows {
			if q := without(p, i); !impl.ValidProblem(q) {
				t.Errorf("ValidProblem(%v) = false", q)
			}
		}
	}
}

func TestP30FeasiblePointsViolateNothing(t *testing.T) {
	for _, p := range validProblems() {
		for _, x := range somePoints(p) {
			if f, v := impl.Feasible(p, x), impl.Violated(p, x); f != (len(v) == 0) {
				t.Errorf("%v at %v: %t, but %v", p, x, f, v)
			}
		}
	}
}

func TestP31FewerRowsAllowMore(t *testing.T) {
	for _, p := range validProblems() {
		for _, x := range somePoints(p) {
			for i := range p.Rows {
				if impl.Feasible(p, x) && !impl.Feasible(without(p, i), x) {
					t.Errorf("%v is feasible for %v, but not without row %d", x, p, i)
				}
			}
		}
	}
}

func TestP32CostsGrowWithValues(t *testing.T) {
	for _, p := range validProblems() {
		for _, x := range somePoints(p) {
			for i, v := range x {
				if v == 0 {
					continue
				}
				if a, b := impl.CostOf(p, x), impl.CostOf(p, changed(x, i, v-1)); a != b+p.Costs[i] {
					t.Errorf("%v at %v: %d, but %d with less of variable %d", p, x, a, b, i)
				}
			}
		}
	}
}

func TestP33WhatIsViolatedCanBeLeftOut(t *testing.T) {
	for _, p := range validProblems() {
		for _, x := range somePoints(p) {
			q := clone(p)
			list := impl.Violated(p, x)
			if !slices.IsSorted(list) {
				t.Fatalf("Violated(%v, %v) = %v", p, x, list)
			}
			for _, i := range slices.Backward(list) {
				q = without(q, i)
			}
			if !impl.Feasible(q, x) {
				t.Errorf("%v is not feasible for %v, which is %v without %v", x, q, p, list)
			}
		}
	}
}

func TestP34WithoutRowsAllPointsAreFeasible(t *testing.T) {
	for _, p := range validProblems() {
		p.Rows = nil
		want := 1
		for _, u := range p.Uppers {
			want *= u + 1
		}
		if got := impl.CountFeasible(p); got != want {
			t.Errorf("CountFeasible(%v) = %d, want %d", p, got, want)
		}
	}
}

func TestP35ARowAndItsContraryDivideThePoints(t *testing.T) {
	for _, p := range validProblems() {
		if len(p.Rows) == 0 || p.Rows[len(p.Rows)-1].Bound == impl.MaxBound {
			continue
		}
		last := p.Rows[len(p.Rows)-1]
		q := without(p, len(p.Rows)-1)
		most := impl.CountFeasible(with(q, row(impl.AtMost, last.Bound, last.Coefs...)))
		least := impl.CountFeasible(with(q, row(impl.AtLeast, last.Bound+1, last.Coefs...)))
		if all := impl.CountFeasible(q); most < 0 || least < 0 || all != most+least {
			t.Errorf("%v has %d points, but %d and %d with %v", q, all, most, least, last)
		}
	}
}

func TestProblemsAreNotChangedAndNotShared(t *testing.T) {
	for _, p := range append(validProblems(), invalidProblems()...) {
		arg := spareProblem(p)
		for _, x := range [][]int{make([]int, len(p.Uppers)), slices.Clone(p.Uppers), ints(-1), nil} {
			point := spare(x)
			checkMemory(t, "a function of chapter 5", []any{arg, point}, func() []any {
				return []any{impl.ValidProblem(arg), impl.Feasible(arg, point), impl.CostOf(arg, point), impl.Violated(arg, point)}
			})
		}
	}
	for _, p := range append(edgeProblems(), invalidProblems()...) {
		arg := spareProblem(p)
		checkMemory(t, "CountFeasible", []any{arg}, func() []any { return []any{impl.CountFeasible(arg)} })
	}
}
