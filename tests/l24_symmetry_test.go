package tests

import (
	"math/rand"
	"slices"
	"testing"

	"loop.example/integerplanner/impl"
)

// exchanged returns a copy of numbers with two of them exchanged.
func exchanged(list []int, i int, j int) []int {
	return changed(changed(list, i, list[j]), j, list[i])
}

// wantSwapped returns what SwapVars returns for two variables of a valid problem.
func wantSwapped(p impl.Problem, i int, j int) impl.Problem {
	q := problem(exchanged(p.Costs, i, j), exchanged(p.Uppers, i, j))
	for _, r := range p.Rows {
		q.Rows = append(q.Rows, row(r.Sense, r.Bound, exchanged(r.Coefs, i, j)...))
	}
	return q
}

// wantSymmetric returns what Symmetric returns for two variables of a valid problem.
func wantSymmetric(p impl.Problem, i int, j int) bool {
	q := wantSwapped(p, i, j)
	for _, r := range p.Rows {
		k := slices.IndexFunc(q.Rows, func(other impl.Row) bool { return sameRow(r, other) })
		if k < 0 {
			return false
		}
		q.Rows = slices.Delete(q.Rows, k, k+1)
	}
	return slices.Equal(p.Costs, q.Costs) && slices.Equal(p.Uppers, q.Uppers)
}

// wantOrbits returns what Orbits returns for a valid problem.
func wantOrbits(p impl.Problem) [][]int {
	var list [][]int
	for i := range p.Costs {
		k := slices.IndexFunc(list, func(orbit []int) bool { return wantSymmetric(p, orbit[0], i) })
		if k < 0 {
			list = append(list, ints(i))
		} else {
			list[k] = append(list[k], i)
		}
	}
	return list
}

// wantSorted returns what SortPoint returns for a point of a valid problem.
func wantSorted(p impl.Problem, x []int) []int {
	y := slices.Clone(x)
	for range x {
		for j := range x {
			for i := range j {
				if y[i] < y[j] && wantSymmetric(p, i, j) {
					y[i], y[j] = y[j], y[i]
				}
			}
		}
	}
	return y
}

// wantOrbitRows returns what OrbitRows returns for a valid problem.
func wantOrbitRows(p impl.Problem) []impl.Row {
	var list []impl.Row
	for _, orbit := range wantOrbits(p) {
		for k, v := range orbit[1:] {
			list = append(list, row(impl.AtLeast, 0, changed(changed(make([]int, len(p.Costs)), orbit[k], 1), v, -1)...))
		}
	}
	return list
}

func sameLists(a [][]int, b [][]int) bool {
	return slices.EqualFunc(a, b, slices.Equal[[]int])
}

// imagesOf returns all different rows that exchanges of variables of the same class make of a row.
func imagesOf(r impl.Row, class []int) []impl.Row {
	list := []impl.Row{r}
	for k := 0; k < len(list); k++ {
		for j := range class {
			for i := range j {
				image := row(r.Sense, r.Bound, exchanged(list[k].Coefs, i, j)...)
				if class[i] == class[j] && !slices.ContainsFunc(list, func(other impl.Row) bool { return sameRow(image, other) }) {
					list = append(list, image)
				}
			}
		}
	}
	return list
}

// nearSymmetry returns a problem whose variables of the same class are symmetric, or would be without a fault.
func nearSymmetry(r *rand.Rand, n int, fault int) impl.Problem {
	class := randomNumbers(r, n, 0, r.Intn(3))
	perClass := func(high int) []int {
		values := randomNumbers(r, 3, 0, high)
		var list []int
		for _, c := range class {
			list = append(list, values[c])
		}
		return list
	}
	p := problem(perClass(5), perClass(4))
	for range r.Intn(4) {
		coefs := perClass(4)
		if r.Intn(2) == 0 {
			coefs[r.Intn(n)] -= 3
		}
		next := imagesOf(row(r.Intn(3)+1, r.Intn(12)-2, coefs...), class)
		if len(p.Rows)+len(next) <= impl.MaxRows {
			p.Rows = append(p.Rows, next...)
		}
	}
	r.Shuffle(len(p.Rows), func(i int, j int) { p.Rows[i], p.Rows[j] = p.Rows[j], p.Rows[i] })
	v, k := r.Intn(n), r.Intn(len(p.Rows)+1)
	switch {
	case fault == 1:
		p.Costs[v]++
	case fault == 2:
		p.Uppers[v]++
	case len(p.Rows) == 0:
	case fault == 3:
		p.Rows = p.Rows[1:]
	case fault == 4 && k < len(p.Rows) && len(p.Rows) < impl.MaxRows:
		p.Rows = append(p.Rows, p.Rows[k])
	case fault == 5 && k < len(p.Rows):
		p.Rows[k].Bound++
	case fault == 6 && k < len(p.Rows):
		p.Rows[k].Sense = p.Rows[k].Sense%3 + 1
	case fault == 7 && k < len(p.Rows):
		p.Rows[k].Coefs[v]++
	}
	return clone(p)
}

// symmetricProblems returns problems that do not have very many points, with orbits of all sizes.
func symmetricProblems() []impl.Problem {
	list := slices.DeleteFunc(append(edgeProblems(), validProblems()[100:]...), func(p impl.Problem) bool { return len(pointsOf(p)) > 3000 })
	r := numbers()
	for k := range 400 {
		list = append(list, nearSymmetry(r, k%impl.MaxVars+1, k%8))
	}
	return list
}

// wrongVars returns numbers that are not those of variables of a problem.
func wrongVars(p impl.Problem) []int {
	return ints(-1, len(p.Costs), len(p.Costs)+1, greatestInt, leastInt)
}

func TestSwapVars(t *testing.T) {
	for _, p := range symmetricProblems() {
		for i := range p.Costs {
			for j := range p.Costs {
				if got := impl.SwapVars(p, i, j); !sameProblem(got, wantSwapped(p, i, j)) {
					t.Errorf("SwapVars(%v, %d, %d) = %v", p, i, j, got)
				}
			}
		}
	}
	p := problem(ints(1, 2, 3), ints(4, 5, 6), row(1, 7, 1, 2, 3), row(2, -8, -4, 0, 9), row(3, 9, 0, 0, 0))
	for _, c := range []struct {
		i, j int
		want impl.Problem
	}{
		{0, 2, problem(ints(3, 2, 1), ints(6, 5, 4), row(1, 7, 3, 2, 1), row(2, -8, 9, 0, -4), row(3, 9, 0, 0, 0))}, {2, 0, problem(ints(3, 2, 1), ints(6, 5, 4), row(1, 7, 3, 2, 1), row(2, -8, 9, 0, -4), row(3, 9, 0, 0, 0))},
		{0, 1, problem(ints(2, 1, 3), ints(5, 4, 6), row(1, 7, 2, 1, 3), row(2, -8, 0, -4, 9), row(3, 9, 0, 0, 0))}, {1, 1, p}, {0, 0, p}, {2, 2, p},
		{0, 3, impl.Problem{}}, {3, 0, impl.Problem{}}, {3, 3, impl.Problem{}}, {-1, 0, impl.Problem{}}, {0, -1, impl.Problem{}}, {-1, -1, impl.Problem{}},
	} {
		if got := impl.SwapVars(p, c.i, c.j); !sameProblem(got, c.want) {
			t.Errorf("SwapVars(%v, %d, %d) = %v", p, c.i, c.j, got)
		}
	}
}

func TestSymmetric(t *testing.T) {
	yes, no := 0, 0
	for _, p := range symmetricProblems() {
		for i := range p.Costs {
			for j := range p.Costs {
				want := wantSymmetric(p, i, j)
				if got := impl.Symmetric(p, i, j); got != want {
					t.Errorf("Symmetric(%v, %d, %d) = %t", p, i, j, got)
				}
				switch {
				case want && i != j && len(p.Rows) > 1:
					yes++
				case !want:
					no++
				}
			}
		}
	}
	if yes < 200 || no < 500 {
		t.Errorf("%d pairs with rows are symmetric, and %d are not", yes, no)
	}
}

func TestVariablesThatAreAlmostSymmetric(t *testing.T) {
	pair := func(rows ...impl.Row) impl.Problem { return problem(ints(4, 4), ints(3, 3), rows...) }
	for _, c := range []struct {
		p    impl.Problem
		want bool
	}{
		// Costs and upper bounds count, also those of variables that are in no row.
		{pair(), true}, {problem(ints(4, 5), ints(3, 3)), false}, {problem(ints(4, 4), ints(3, 2)), false}, {problem(ints(0, 0), ints(0, 0)), true}, {problem(ints(4, 5), ints(3, 3), row(1, 2, 1, 1)), false}, {problem(ints(4, 4), ints(3, 2), row(1, 2, 1, 1)), false},
		// Rows that stay the same, and rows that change their places.
		{pair(row(1, 5, 2, 2)), true}, {pair(row(1, 5, 2, 3)), false}, {pair(row(1, 5, 2, -2)), false}, {pair(row(1, 5, 0, 0)), true}, {pair(row(1, 5, 2, 3), row(1, 5, 3, 2)), true}, {pair(row(1, 5, 1, 0), row(2, 1, 1, 1), row(1, 5, 0, 1)), true}, {pair(row(1, 5, 1, 0), row(2, 1, 4, 7), row(2, 1, 7, 4), row(1, 5, 0, 1)), true}, {pair(row(1, 5, 1, -1), row(1, 5, -1, 1)), true}, {pair(row(3, 0, 1, -1), row(3, 0, -1, 1)), true},
		// Rows that differ in their sense or bound.
		{pair(row(1, 5, 2, 3), row(2, 5, 3, 2)), false}, {pair(row(1, 5, 2, 3), row(3, 5, 3, 2)), false}, {pair(row(1, 5, 2, 3), row(1, 4, 3, 2)), false}, {pair(row(1, 5, 2, 3), row(1, -5, 3, 2)), false}, {pair(row(2, 1, 2, 3), row(2, 10, 3, 2)), false},
		// Rows that stand there another number of times.
		{pair(row(1, 5, 2, 3), row(1, 5, 3, 2), row(1, 5, 2, 3)), false}, {pair(row(1, 5, 2, 3), row(1, 5, 3, 2), row(1, 5, 2, 3), row(1, 5, 3, 2)), true}, {pair(row(1, 5, 2, 3), row(1, 5, 2, 3), row(1, 5, 3, 2), row(1, 5, 3, 2)), true}, {pair(row(1, 5, 2, 3), row(1, 5, 2, 3), row(1, 5, 2, 3), row(1, 5, 3, 2)), false}, {pair(row(1, 5, 2, 2), row(1, 5, 2, 2), row(1, 5, 2, 2)), true}, {pair(row(1, 5, 1, 0), row(1, 5, 1, 0), row(1, 5, 0, 1), row(2, 0, 1, 1), row(2, 0, 1, 1)), false},
		{pair(row(1, 5, 1, 0), row(1, 5, 1, 0), row(1, 4, 0, 1), row(1, 4, 0, 1)), false}, {pair(row(1, 5, 1, 0), row(1, 5, 1, 0), row(1, 5, 1, 0), row(1, 5, 0, 1), row(1, 5, 0, 1), row(1, 5, 0, 1)), true},
		// Other rows that say the same are other rows.
		{pair(row(1, 2, 1, 0), row(2, -2, 0, -1)), false}, {pair(row(3, 0, 1, -1)), false}, {pair(row(1, 2, 1, 0), row(1, 4, 0, 2)), false}, {pair(row(1, 99, 1, 0)), false},
	} {
		if got, also := impl.Symmetric(c.p, 0, 1), impl.Symmetric(c.p, 1, 0); got != c.want || also != c.want {
			t.Errorf("Symmetric(%v) = %t, %t", c.p, got, also)
		}
		if !impl.Symmetric(c.p, 0, 0) || !impl.Symmetric(c.p, 1, 1) {
			t.Errorf("a variable of %v is not symmetric to itself", c.p)
		}
	}
}

func TestOrbits(t *testing.T) {
	sizes := [impl.MaxVars + 1]int{}
	several := 0
	for _, p := range symmetricProblems() {
		want := wantOrbits(p)
		if got := impl.Orbits(p); !sameLists(got, want) {
			t.Errorf("Orbits(%v) = %v, want %v", p, got, want)
		}
		large := 0
		for _, orbit := range want {
			sizes[len(orbit)]++
			if len(orbit) > 1 {
				large++
			}
		}
		if large > 1 && len(p.Rows) > 0 {
			several++
		}
	}
	if slices.Min(sizes[1:]) < 10 || several < 20 {
		t.Errorf("the orbits have the sizes %v, and %d problems have several large ones", sizes, several)
	}
	five := func(v int) []int { return slices.Repeat(ints(v), 5) }
	for _, c := range []struct {
		p    impl.Problem
		want [][]int
	}{
		{problem(ints(7), ints(9)), [][]int{{0}}}, {problem(five(1), five(9)), [][]int{{0, 1, 2, 3, 4}}}, {problem(five(1), five(9), row(2, 9, five(3)...), row(3, 0, five(0)...)), [][]int{{0, 1, 2, 3, 4}}}, {problem(ints(1, 2, 3, 4, 5), five(9)), [][]int{{0}, {1}, {2}, {3}, {4}}},
		{problem(five(1), five(9), row(2, 1, 1, 0, 0, 0, 0), row(2, 1, 0, 1, 0, 0, 0), row(2, 1, 0, 0, 1, 0, 0), row(2, 1, 0, 0, 0, 1, 0), row(2, 1, 0, 0, 0, 0, 1)), [][]int{{0, 1, 2, 3, 4}}},
		{problem(ints(1, 2, 1, 2, 1), five(9)), [][]int{{0, 2, 4}, {1, 3}}}, {problem(ints(2, 1, 1, 1, 2), five(9)), [][]int{{0, 4}, {1, 2, 3}}}, {problem(ints(1, 2, 2, 1, 1), ints(3, 4, 4, 3, 4)), [][]int{{0, 3}, {1, 2}, {4}}}, {problem(ints(3, 1, 1, 2, 2), five(1)), [][]int{{0}, {1, 2}, {3, 4}}},
		// Pairs of rows: neighbours may only be exchanged together.
		{problem(ints(1, 1, 1, 1), ints(4, 4, 4, 4), row(2, 1, 1, 1, 0, 0), row(2, 1, 0, 0, 1, 1)), [][]int{{0, 1}, {2, 3}}}, {problem(ints(1, 1, 1, 1), ints(4, 4, 4, 4), row(2, 1, 1, 0, 1, 0), row(2, 1, 0, 1, 0, 1)), [][]int{{0, 2}, {1, 3}}}, {problem(ints(1, 1, 1), ints(4, 4, 4), row(2, 1, 1, 2, 3), row(2, 1, 2, 3, 1), row(2, 1, 3, 1, 2)), [][]int{{0}, {1}, {2}}},
		{problem(ints(1, 1, 1), ints(4, 4, 4), row(2, 1, 1, 2, 3), row(2, 1, 2, 3, 1), row(2, 1, 3, 1, 2), row(2, 1, 3, 2, 1), row(2, 1, 2, 1, 3), row(2, 1, 1, 3, 2)), [][]int{{0, 1, 2}}},
	} {
		if got := impl.Orbits(c.p); !sameLists(got, c.want) {
			t.Errorf("Orbits(%v) = %v, want %v", c.p, got, c.want)
		}
	}
}

func TestSortPoint(t *testing.T) {
	moved, kept := 0, 0
	for _, p := range symmetricProblems() {
		for _, x := range somePoints(p) {
			want := wantSorted(p, x)
			if got := impl.SortPoint(p, x); !slices.Equal(got, want) {
				t.Errorf("SortPoint(%v, %v) = %v, want %v", p, x, got, want)
			}
			if slices.Equal(x, want) {
				kept++
			} else {
				moved++
			}
		}
	}
	if moved < 500 || kept < 500 {
		t.Errorf("%d points are changed, and %d are not", moved, kept)
	}
	p := problem(ints(1, 2, 1, 2, 1), ints(9, 4, 9, 4, 9))
	for _, c := range []struct{ x, want []int }{
		{ints(0, 0, 0, 0, 0), ints(0, 0, 0, 0, 0)}, {ints(1, 2, 3, 4, 5), ints(5, 4, 3, 2, 1)}, {ints(3, 4, 9, 4, 3), ints(9, 4, 3, 4, 3)}, {ints(0, 4, 0, 0, 9), ints(9, 4, 0, 0, 0)}, {ints(9, 0, 8, 1, 7), ints(9, 1, 8, 0, 7)}, {ints(0, 5, 0, 0, 0), nil}, {ints(0, 0, 10, 0, 0), nil}, {ints(0, 0, 0, -1, 0), nil}, {ints(0, 0, 0, 0), nil}, {ints(0, 0, 0, 0, 0, 0), nil}, {nil, nil},
	} {
		if got := impl.SortPoint(p, c.x); !slices.Equal(got, c.want) {
			t.Errorf("SortPoint(%v, %v) = %v, want %v", p, c.x, got, c.want)
		}
	}
}

func TestOrbitRows(t *testing.T) {
	lengths := [impl.MaxVars]int{}
	for _, p := range symmetricProblems() {
		want := wantOrbitRows(p)
		if got := impl.OrbitRows(p); !slices.EqualFunc(got, want, sameRow) {
			t.Errorf("OrbitRows(%v) = %v, want %v", p, got, want)
		}
		lengths[len(want)]++
	}
	if slices.Min(lengths[:]) < 5 {
		t.Errorf("as many problems have so many rows: %v", lengths)
	}
	for _, c := range []struct {
		p    impl.Problem
		want []impl.Row
	}{
		{problem(ints(7), ints(9)), nil}, {problem(ints(1, 2), ints(3, 3)), nil}, {problem(ints(1, 1), ints(3, 3), row(3, 2, 5, 5)), []impl.Row{row(2, 0, 1, -1)}},
		{problem(ints(1, 2, 1, 2, 1), ints(4, 4, 4, 4, 4)), []impl.Row{row(2, 0, 1, 0, -1, 0, 0), row(2, 0, 0, 0, 1, 0, -1), row(2, 0, 0, 1, 0, -1, 0)}}, {problem(slices.Repeat(ints(0), 5), slices.Repeat(ints(9), 5)), []impl.Row{row(2, 0, 1, -1, 0, 0, 0), row(2, 0, 0, 1, -1, 0, 0), row(2, 0, 0, 0, 1, -1, 0), row(2, 0, 0, 0, 0, 1, -1)}},
	} {
		if got := impl.OrbitRows(c.p); !slices.EqualFunc(got, c.want, sameRow) {
			t.Errorf("OrbitRows(%v) = %v, want %v", c.p, got, c.want)
		}
	}
}

func TestSymmetryWithInvalidArguments(t *testing.T) {
	check := func(p impl.Problem, i int, j int) {
		if got := impl.SwapVars(p, i, j); !noProblem(got) {
			t.Errorf("SwapVars(%v, %d, %d) = %v", p, i, j, got)
		}
		if impl.Symmetric(p, i, j) {
			t.Errorf("Symmetric(%v, %d, %d) = true", p, i, j)
		}
	}
	for _, p := range symmetricProblems() {
		for _, i := range wrongVars(p) {
			check(p, i, i)
			for j := range p.Costs {
				check(p, i, j)
				check(p, j, i)
			}
		}
		for _, x := range noPoints(p) {
			if got := impl.SortPoint(p, x); len(got) > 0 {
				t.Errorf("SortPoint(%v, %v) = %v", p, x, got)
			}
		}
	}
	for _, p := range invalidProblems() {
		for i := range impl.MaxVars + 2 {
			check(p, i, i)
			check(p, 0, i)
			check(p, i, 0)
			for _, x := range [][]int{make([]int, i), p.Uppers} {
				if got := impl.SortPoint(p, x); len(got) > 0 {
					t.Errorf("SortPoint(%v, %v) = %v", p, x, got)
				}
			}
		}
		if got := impl.Orbits(p); len(got) > 0 {
			t.Errorf("Orbits(%v) = %v", p, got)
		}
		if got := impl.OrbitRows(p); len(got) > 0 {
			t.Errorf("OrbitRows(%v) = %v", p, got)
		}
	}
}

// forPairs calls a function for each two variables of problems, which may be the same one.
func forPairs(call func(p impl.Problem, i int, j int)) {
	for _, p := range symmetricProblems() {
		for i := range p.Costs {
			for j := range p.Costs {
				call(p, i, j)
			}
		}
	}
}

func TestP155ExchangingTwiceChangesNothing(t *testing.T) {
	forPairs(func(p impl.Problem, i int, j int) {
		q := impl.SwapVars(p, i, j)
		if again := impl.SwapVars(q, i, j); !sameProblem(again, p) {
			t.Errorf("SwapVars(%v, %d, %d) = %v, and then %v", p, i, j, q, again)
		}
		if a, b := impl.CountFeasible(p), impl.CountFeasible(q); a != b {
			t.Errorf("CountFeasible(%v) = %d, but %d with %d and %d exchanged", p, a, b, i, j)
		}
	})
}

func TestP156NamesDoNotMatter(t *testing.T) {
	forPairs(func(p impl.Problem, i int, j int) {
		q := impl.SwapVars(p, i, j)
		_, least := impl.SolveExact(p)
		if _, cost := impl.SolveExact(q); cost != least {
			t.Errorf("SolveExact(%v) costs %d, but %d with %d and %d exchanged", p, least, cost, i, j)
		}
		if a, b := impl.CountBest(p), impl.CountBest(q); a != b {
			t.Errorf("CountBest(%v) = %d, but %d with %d and %d exchanged", p, a, b, i, j)
		}
	})
}

func TestP157SymmetricVariablesCanBeExchangedInSolutions(t *testing.T) {
	other := 0
	forPairs(func(p impl.Problem, i int, j int) {
		symmetric := impl.Symmetric(p, i, j)
		if i == j && !symmetric {
			t.Errorf("Symmetric(%v, %d, %d) = false", p, i, j)
		}
		x, cost := impl.SolveExact(p)
		if !symmetric || cost < 0 {
			return
		}
		y := exchanged(x, i, j)
		if !impl.Feasible(p, y) || impl.CostOf(p, y) != cost {
			t.Errorf("SolveExact(%v) = %v, but with %d and %d exchanged it costs %d", p, x, i, j, impl.CostOf(p, y))
		}
		if !slices.Equal(x, y) {
			other++
		}
	})
	if other < 50 {
		t.Errorf("only %d solutions are changed", other)
	}
}

func TestP158OrbitsAreClasses(t *testing.T) {
	for _, p := range symmetricProblems() {
		orbits := impl.Orbits(p)
		all := slices.Concat(orbits...)
		slices.Sort(all)
		if !slices.Equal(all, subsets(len(p.Costs))[1<<len(p.Costs)-1]) {
			t.Errorf("Orbits(%v) = %v", p, orbits)
		}
		for i := range p.Costs {
			for j := range p.Costs {
				together := slices.ContainsFunc(orbits, func(orbit []int) bool { return slices.Contains(orbit, i) && slices.Contains(orbit, j) })
				if together != impl.Symmetric(p, i, j) {
					t.Errorf("Orbits(%v) = %v, but Symmetric of %d and %d is %t", p, orbits, i, j, !together)
				}
			}
		}
		for k, orbit := range orbits {
			if !slices.IsSorted(orbit) || k > 0 && orbits[k-1][0] >= orbit[0] {
				t.Errorf("Orbits(%v) = %v, which do not ascend", p, orbits)
			}
		}
	}
}

func TestP159SortedPointsAreAsGood(t *testing.T) {
	feasible, not := 0, 0
	for _, p := range symmetricProblems() {
		rows := impl.OrbitRows(p)
		for _, x := range somePoints(p) {
			y := impl.SortPoint(p, x)
			if impl.CostOf(p, x) != impl.CostOf(p, y) || impl.Feasible(p, x) != impl.Feasible(p, y) {
				t.Errorf("SortPoint(%v, %v) = %v, which is not as good", p, x, y)
			}
			for _, r := range rows {
				if !impl.RowHolds(r, y) {
					t.Errorf("SortPoint(%v, %v) = %v, which violates %v", p, x, y, r)
				}
			}
			switch {
			case slices.Equal(x, y):
			case impl.Feasible(p, x):
				feasible++
			default:
				not++
			}
		}
	}
	if feasible < 100 || not < 100 {
		t.Errorf("%d feasible points, and %d others are changed", feasible, not)
	}
}

func TestP160SortingLosesNoBestValue(t *testing.T) {
	other := 0
	for _, p := range symmetricProblems() {
		x, least := impl.SolveExact(p)
		q := clone(p)
		for _, r := range impl.OrbitRows(p) {
			if more, ok := impl.AddCut(q, r); ok {
				q = more
			} else if len(q.Rows) < impl.MaxRows {
				t.Errorf("AddCut(%v, %v) fails", q, r)
			}
		}
		y, cost := impl.SolveExact(q)
		if cost != least {
			t.Errorf("SolveExact(%v) costs %d, but %d with OrbitRows", p, least, cost)
		}
		if !slices.Equal(x, y) {
			other++
		}
	}
	if other < 15 {
		t.Errorf("only %d solutions are changed", other)
	}
}

func TestSymmetryIsNotChangedAndNotShared(t *testing.T) {
	for k, p := range append(symmetricProblems(), invalidProblems()...) {
		arg := spareProblem(p)
		for _, x := range [][]int{slices.Clone(p.Uppers), make([]int, len(p.Uppers)), ints(-1), nil} {
			point := spare(x)
			i, j := k%(len(p.Costs)+1), k/3%(len(p.Costs)+1)
			checkMemory(t, "a function of chapter 24", []any{arg, point}, func() []any {
				return []any{impl.SwapVars(arg, i, j), impl.SwapVars(arg, i, i), impl.Symmetric(arg, i, j), impl.Orbits(arg), impl.SortPoint(arg, point), impl.OrbitRows(arg)}
			})
		}
	}
}
