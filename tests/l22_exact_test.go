package tests

import (
	"slices"
	"testing"

	"loop.example/integerplanner/impl"
)

// wantCheapest returns what SolveExact and CountBest return for a valid problem.
func wantCheapest(p impl.Problem) ([]int, int, int) {
	var best []int
	least, count := -1, 0
	for _, x := range feasiblePoints(p) {
		cost := dot(p.Costs, x)
		if least < 0 || cost < least {
			best, least, count = x, cost, 0
		}
		if cost == least {
			count++
		}
	}
	return best, least, count
}

// tiedProblems returns small problems with many points of the same cost.
func tiedProblems() []impl.Problem {
	var list []impl.Problem
	r := numbers()
	for k := range 200 {
		n := k%4 + 1
		p := problem(randomNumbers(r, n, 0, 2), randomNumbers(r, n, 0, 4))
		for range r.Intn(4) {
			p.Rows = append(p.Rows, row(r.Intn(3)+1, r.Intn(9)-2, randomNumbers(r, n, -2, 3)...))
		}
		list = append(list, p)
	}
	return list
}

// demandProblems returns small problems whose rows demand something of all variables, so that the cheapest point is not that of zeros.
func demandProblems() []impl.Problem {
	var list []impl.Problem
	r := numbers()
	for k := range 200 {
		n := k%4 + 1
		p := problem(randomNumbers(r, n, 1, []int{9, impl.MaxCost}[r.Intn(2)]), randomNumbers(r, n, 1, 6))
		for range r.Intn(3) + 1 {
			coefs := randomNumbers(r, n, 0, 5)
			p.Rows = append(p.Rows, row(impl.AtLeast, min(impl.MaxBound, r.Intn(dot(coefs, p.Uppers)+2)), coefs...))
		}
		list = append(list, p)
	}
	return list
}

// exactProblems returns problems of all sizes, with and without feasible points, and with several cheapest ones.
func exactProblems() []impl.Problem {
	return slices.Concat(validProblems(), tiedProblems(), demandProblems())
}

// contradictions returns small problems, most of which exclude all points in several ways.
func contradictions() []impl.Problem {
	list := []impl.Problem{
		// Each two of three rows, any one of six, all of six, and a row of zeros beside others.
		problem(ints(1, 1), ints(3, 3), row(1, 1, 1, 0), row(2, 2, 1, 0), row(3, 3, 1, 0)), problem(ints(1), ints(1), row(2, 2, 1), row(3, 2, 1), row(1, -1, 1), row(2, 1, 0), row(3, 1, 0), row(1, -1, 0)),
		problem(slices.Repeat(ints(1), 5), slices.Repeat(ints(1), 5), row(2, 1, 1, 0, 0, 0, 0), row(2, 1, 0, 1, 0, 0, 0), row(2, 1, 0, 0, 1, 0, 0), row(2, 1, 0, 0, 0, 1, 0), row(2, 1, 0, 0, 0, 0, 1), row(1, 4, 1, 1, 1, 1, 1)),
		problem(ints(1, 1), ints(3, 3), row(1, 9, 1, 1), row(2, 4, 1, 0), row(2, 1, 0, 1)), problem(ints(1, 1), ints(3, 3), row(2, 2, 1, 0), row(1, 1, 1, 0), row(2, 2, 0, 1), row(1, 1, 0, 1)), problem(ints(1, 1), ints(3, 3), row(2, 2, 1, 0), row(2, 2, 0, 1), row(1, 1, 1, 0), row(1, 1, 0, 1)),
		problem(ints(1, 1), ints(3, 3), row(3, 3, 2, 4), row(1, 5, 1, 1)), problem(ints(0, 0), ints(2, 2), row(2, 3, 1, 1), row(1, 1, 1, 0), row(1, 1, 0, 1), row(1, 2, 1, 1)),
	}
	r := numbers()
	for k := range 300 {
		n := k%3 + 1
		p := problem(randomNumbers(r, n, 0, 9), randomNumbers(r, n, 1, 4))
		for range r.Intn(4) + 3 {
			var x []int
			for _, u := range p.Uppers {
				x = append(x, r.Intn(u+1))
			}
			next := randomRow(r, x)
			if r.Intn(2) == 0 {
				next.Coefs = randomNumbers(r, n, -1, 1)
				next.Bound = dot(next.Coefs, x)
			}
			p.Rows = append(p.Rows, next)
		}
		list = append(list, p)
	}
	return list
}

// conflicts has, for all points of a problem, the rows that do not hold, as bits.
type conflicts map[int]bool

func conflictsOf(p impl.Problem) conflicts {
	list := conflicts{}
	for _, x := range pointsOf(p) {
		list[rowMask(wantViolated(p, x))] = true
	}
	return list
}

func rowMask(rows []int) int {
	mask := 0
	for _, i := range rows {
		mask |= 1 << i
	}
	return mask
}

// exclude reports whether no point satisfies all of some rows.
func (c conflicts) exclude(rows []int) bool {
	for broken := range c {
		if broken&rowMask(rows) == 0 {
			return false
		}
	}
	return true
}

// wantCauseOk returns what CauseOk returns for numbers of rows that ascend.
func (c conflicts) wantCauseOk(rows []int) bool {
	ok := c.exclude(rows)
	for i := range rows {
		ok = ok && !c.exclude(minusOne(rows, i))
	}
	return ok
}

// wantCause returns what MinimalCause returns for a problem with n rows.
func (c conflicts) wantCause(n int) []int {
	left := subsets(n)[1<<n-1]
	if !c.exclude(left) {
		return nil
	}
	for i := range n {
		if fewer := slices.DeleteFunc(slices.Clone(left), func(k int) bool { return k == i }); c.exclude(fewer) {
			left = fewer
		}
	}
	return left
}

// onlyRows returns a problem with only some of its rows.
func onlyRows(p impl.Problem, rows []int) impl.Problem {
	q := problem(slices.Clone(p.Costs), slices.Clone(p.Uppers))
	for _, i := range rows {
		q.Rows = append(q.Rows, p.Rows[i])
	}
	return clone(q)
}

func TestSolveExactAndCountBest(t *testing.T) {
	none, one, several := 0, 0, 0
	for _, p := range exactProblems() {
		want, least, count := wantCheapest(p)
		if x, cost := impl.SolveExact(p); !slices.Equal(x, want) || cost != least {
			t.Errorf("SolveExact(%v) = %v, %d, want %v, %d", p, x, cost, want, least)
		}
		if got := impl.CountBest(p); got != count {
			t.Errorf("CountBest(%v) = %d, want %d", p, got, count)
		}
		switch count {
		case 0:
			none++
		case 1:
			one++
		default:
			several++
		}
	}
	if none < 50 || one < 50 || several < 50 {
		t.Errorf("%d problems without, %d with one, and %d with several cheapest points", none, one, several)
	}
}

func TestCheapestPoints(t *testing.T) {
	nines := slices.Repeat(ints(9), 5)
	for _, c := range []struct {
		p     impl.Problem
		x     []int
		cost  int
		count int
	}{
		// Of several cheapest points, the lexicographically smallest one counts.
		{problem(ints(1, 1), ints(3, 3), row(2, 3, 1, 1)), ints(0, 3), 3, 4}, {problem(ints(2, 1), ints(3, 3), row(2, 3, 2, 1)), ints(0, 3), 3, 2}, {problem(ints(1, 2), ints(3, 3), row(2, 3, 1, 2)), ints(1, 1), 3, 2}, {problem(ints(0, 3), ints(4, 4), row(2, 2, 1, 0)), ints(2, 0), 0, 3}, {problem(ints(3, 0), ints(4, 4), row(1, 3, 1, 1), row(2, 1, 0, 1)), ints(0, 1), 0, 3},
		{problem(ints(1, 1, 1), ints(1, 1, 1), row(3, 2, 1, 1, 1)), ints(0, 1, 1), 2, 3}, {problem(ints(5, 4), ints(9, 9), row(2, 20, 5, 4)), ints(0, 5), 20, 2},
		// All costs are 0, also without rows.
		{problem(ints(0, 0), ints(2, 3), row(2, 3, 1, 1)), ints(0, 3), 0, 6}, {problem(ints(0, 0), ints(2, 3)), ints(0, 0), 0, 12}, {problem(slices.Repeat(ints(0), 5), nines), slices.Repeat(ints(0), 5), 0, 100000}, {problem(ints(0), ints(0)), ints(0), 0, 1},
		// Without rows the point of zeros is the cheapest one.
		{problem(ints(7, 99), ints(9, 9)), ints(0, 0), 0, 1}, {problem(ints(7, 0, 3), ints(9, 4, 9)), ints(0, 0, 0), 0, 5}, {problem(ints(99), ints(0)), ints(0), 0, 1},
		// There is one feasible point, or none.
		{problem(slices.Repeat(ints(99), 5), nines, row(2, 45, 1, 1, 1, 1, 1)), nines, 4455, 1}, {problem(slices.Repeat(ints(99), 5), nines, row(2, 44, 1, 1, 1, 1, 1)), ints(8, 9, 9, 9, 9), 4356, 5}, {problem(slices.Repeat(ints(99), 5), nines, row(2, 46, 1, 1, 1, 1, 1)), nil, -1, 0},
		{problem(ints(3), ints(9), row(3, 6, 3)), ints(2), 6, 1}, {problem(ints(3), ints(9), row(3, 7, 2)), nil, -1, 0}, {problem(ints(0), ints(9), row(1, -1, 0)), nil, -1, 0}, {problem(ints(0, 0), ints(0, 0), row(2, 1, 9, 9)), nil, -1, 0},
		// The cheapest point of the relaxation, rounded, is not the cheapest one.
		{problem(ints(3, 2), ints(4, 4), row(2, 5, 2, 1)), ints(2, 1), 8, 1}, {problem(ints(10, 7), ints(9, 9), row(2, 17, 3, 2)), ints(5, 1), 57, 1},
	} {
		if x, cost := impl.SolveExact(c.p); !slices.Equal(x, c.x) || cost != c.cost {
			t.Errorf("SolveExact(%v) = %v, %d, want %v, %d", c.p, x, cost, c.x, c.cost)
		}
		if got := impl.CountBest(c.p); got != c.count {
			t.Errorf("CountBest(%v) = %d, want %d", c.p, got, c.count)
		}
	}
}

func TestCauseOk(t *testing.T) {
	causes, wide, not := 0, 0, 0
	for _, p := range append(contradictions(), tiedProblems()...) {
		c := conflictsOf(p)
		for _, rows := range subsets(len(p.Rows)) {
			want := c.wantCauseOk(rows)
			if got := impl.CauseOk(p, rows); got != want {
				t.Errorf("CauseOk(%v, %v) = %t", p, rows, got)
			}
			switch {
			case want:
				causes++
			case c.exclude(rows):
				wide++
			default:
				not++
			}
		}
		for _, rows := range wrongSets(len(p.Rows)) {
			if impl.CauseOk(p, rows) {
				t.Errorf("CauseOk(%v, %v) = true", p, rows)
			}
		}
	}
	if causes < 300 || wide < 300 || not < 300 {
		t.Errorf("%d sets are irreducible, %d exclude all points, and %d do not", causes, wide, not)
	}
}

func TestMinimalCause(t *testing.T) {
	none, whole, later := 0, 0, 0
	for _, p := range append(contradictions(), exactProblems()...) {
		c := conflictsOf(p)
		want := c.wantCause(len(p.Rows))
		if got := impl.MinimalCause(p); !slices.Equal(got, want) {
			t.Errorf("MinimalCause(%v) = %v, want %v", p, got, want)
		}
		switch {
		case want == nil:
			none++
		case len(want) == len(p.Rows):
			whole++
		case c.exclude(subsets(len(p.Rows))[1<<(len(p.Rows)-1)-1]) && slices.Contains(want, len(p.Rows)-1):
			// The last row belongs to the cause, although there is one without it.
			later++
		}
	}
	if none < 50 || whole < 20 || later < 50 {
		t.Errorf("%d problems have feasible points, %d need all rows, and %d the last one only because of the order", none, whole, later)
	}
}

func TestCauses(t *testing.T) {
	list := contradictions()
	for i, want := range [][]int{ints(0, 2), ints(5), ints(0, 1, 2, 3, 4, 5), ints(1), ints(2, 3), ints(1, 3), ints(0), ints(0, 3)} {
		if got := impl.MinimalCause(list[i]); !slices.Equal(got, want) || !impl.CauseOk(list[i], want) {
			t.Errorf("MinimalCause(%v) = %v, want %v", list[i], got, want)
		}
	}
	for _, c := range []struct {
		at   int
		rows []int
		want bool
	}{
		{0, ints(0, 1), true}, {0, ints(0, 2), true}, {0, ints(1, 2), false}, {0, ints(0, 1, 2), false}, {1, ints(0), true}, {1, ints(4), true}, {1, ints(0, 4), false}, {1, nil, false}, {1, ints(5, 4), false}, {2, ints(0, 1, 2, 3, 4), false}, {2, ints(1, 2, 3, 4, 5), false},
		{4, ints(0, 1), true}, {4, ints(2, 3), true}, {4, ints(0, 1, 2), false}, {4, ints(0, 1, 2, 3), false}, {4, ints(1, 0), false}, {4, ints(0, 0), false}, {4, ints(0, 1, 1), false}, {4, ints(0, 4), false}, {4, ints(-1, 0, 1), false}, {6, ints(0), true}, {6, ints(1), false},
		{7, ints(0, 3), true}, {7, ints(0, 1, 2), true}, {7, ints(0, 1, 2, 3), false}, {7, ints(1, 2, 3), false},
	} {
		if got := impl.CauseOk(list[c.at], c.rows); got != c.want {
			t.Errorf("CauseOk(%v, %v) = %t", list[c.at], c.rows, got)
		}
	}
	// A problem without rows has a feasible point, and no cause.
	p := problem(ints(1, 1), ints(0, 9))
	if got := impl.MinimalCause(p); len(got) > 0 || impl.CauseOk(p, nil) || impl.CauseOk(p, ints(0)) {
		t.Errorf("MinimalCause(%v) = %v", p, got)
	}
	nines := slices.Repeat(ints(9), 5)
	q := problem(nines, nines, row(3, 99, 2, 4, 6, 8, 2), row(1, 98, 9, 8, 7, 6, 5), row(2, -7, 1, -1, 1, -1, 1), row(1, 40, 1, 1, 1, 1, 1), row(2, 3, 1, 1, 1, 1, 1), row(1, 90, 5, 0, 5, 0, 5))
	if got := impl.MinimalCause(q); !slices.Equal(got, ints(0)) {
		t.Errorf("MinimalCause(%v) = %v", q, got)
	}
}

func TestExactSolutionsOfInvalidProblems(t *testing.T) {
	for _, p := range invalidProblems() {
		if x, cost := impl.SolveExact(p); len(x) > 0 || cost != -1 {
			t.Errorf("SolveExact(%v) = %v, %d", p, x, cost)
		}
		if n := impl.CountBest(p); n != -1 {
			t.Errorf("CountBest(%v) = %d", p, n)
		}
		if rows := impl.MinimalCause(p); len(rows) > 0 {
			t.Errorf("MinimalCause(%v) = %v", p, rows)
		}
		for _, rows := range [][]int{nil, ints(0), ints(0, 1), ints(5), ints(0, 1, 2, 3, 4, 5)} {
			if impl.CauseOk(p, rows) {
				t.Errorf("CauseOk(%v, %v) = true", p, rows)
			}
		}
	}
	// With a fault, rows that exclude everything are no cause either.
	for _, p := range []impl.Problem{problem(nil, nil, row(2, 1)), problem(ints(100), ints(1), row(2, 1, 0)), problem(ints(1), ints(10), row(2, 1, 0)), problem(ints(1), ints(1), row(2, 1, 0), row(2, 100, 1)), problem(ints(1), ints(-1), row(2, 1, 0)), problem(ints(1), ints(1), slices.Repeat([]impl.Row{row(2, 1, 0)}, 7)...)} {
		if rows := impl.MinimalCause(p); len(rows) > 0 || impl.CauseOk(p, ints(0)) {
			t.Errorf("MinimalCause(%v) = %v", p, rows)
		}
	}
}

func TestP140TheSolutionIsFeasible(t *testing.T) {
	for _, p := range exactProblems() {
		x, cost := impl.SolveExact(p)
		if n := impl.CountFeasible(p); (n == 0) != (cost == -1) || (n == 0) != (len(x) == 0) {
			t.Errorf("SolveExact(%v) = %v, %d, but there are %d feasible points", p, x, cost, n)
		}
		if cost >= 0 && (!impl.Feasible(p, x) || impl.CostOf(p, x) != cost) {
			t.Errorf("SolveExact(%v) = %v, %d", p, x, cost)
		}
	}
}

func TestP141NoFeasiblePointBeforeItCostsAsLittle(t *testing.T) {
	lowered := 0
	for _, p := range exactProblems() {
		x, cost := impl.SolveExact(p)
		if cost < 0 {
			continue
		}
		q := clone(p)
		q.Uppers[0] = x[0]
		if y, same := impl.SolveExact(q); !slices.Equal(y, x) || same != cost {
			t.Errorf("SolveExact(%v) = %v, %d, but %v, %d with less of variable 0", p, x, cost, y, same)
		}
		if x[0] == 0 {
			continue
		}
		q.Uppers[0]--
		y, more := impl.SolveExact(q)
		if more >= 0 && more <= cost {
			t.Errorf("SolveExact(%v) = %v, %d, but %v, %d is before it", p, x, cost, y, more)
		}
		if more >= 0 {
			lowered++
		}
	}
	if lowered < 20 {
		t.Errorf("only %d problems have solutions before the cheapest one", lowered)
	}
}

func TestP142FewerRowsAreNotDearer(t *testing.T) {
	cheaper := 0
	for _, p := range exactProblems() {
		_, cost := impl.SolveExact(p)
		for i := range p.Rows {
			_, less := impl.SolveExact(without(p, i))
			if cost >= 0 && (less < 0 || less > cost) {
				t.Errorf("SolveExact(%v) costs %d, but %d without row %d", p, cost, less, i)
			}
			if less < cost {
				cheaper++
			}
		}
	}
	if cheaper < 50 {
		t.Errorf("only %d rows make a solution dearer", cheaper)
	}
}

func TestP143BestPointsAreFeasiblePoints(t *testing.T) {
	for _, p := range exactProblems() {
		best, all := impl.CountBest(p), impl.CountFeasible(p)
		if best > all || (best == 0) != (all == 0) {
			t.Errorf("CountBest(%v) = %d of %d", p, best, all)
		}
		q := clone(p)
		q.Costs = make([]int, len(p.Costs))
		if n := impl.CountBest(q); n != all {
			t.Errorf("CountBest(%v) = %d of %d", q, n, all)
		}
	}
}

func TestP144CausesExcludeEverything(t *testing.T) {
	accepted := 0
	for _, p := range contradictions() {
		for _, rows := range subsets(len(p.Rows)) {
			if !impl.CauseOk(p, rows) {
				continue
			}
			accepted++
			if n := impl.CountFeasible(p); n != 0 {
				t.Errorf("CauseOk(%v, %v) = true, but there are %d feasible points", p, rows, n)
			}
			if n := impl.CountFeasible(onlyRows(p, rows)); n != 0 {
				t.Errorf("CauseOk(%v, %v) = true, but %d points satisfy these rows", p, rows, n)
			}
			for i := range rows {
				if n := impl.CountFeasible(onlyRows(p, minusOne(rows, i))); n <= 0 {
					t.Errorf("CauseOk(%v, %v) = true, but row %d is not needed", p, rows, rows[i])
				}
			}
		}
	}
	if accepted < 300 {
		t.Errorf("only %d causes", accepted)
	}
}

func TestP145EveryContradictionHasACause(t *testing.T) {
	for _, p := range append(contradictions(), exactProblems()...) {
		rows, n := impl.MinimalCause(p), impl.CountFeasible(p)
		if impl.CauseOk(p, rows) != (n == 0) {
			t.Errorf("MinimalCause(%v) = %v, and there are %d feasible points", p, rows, n)
		}
	}
}

func TestP146CausesAreEnough(t *testing.T) {
	for _, p := range append(contradictions(), exactProblems()...) {
		rows := impl.MinimalCause(p)
		want := subsets(len(rows))[1<<len(rows)-1]
		if got := impl.MinimalCause(onlyRows(p, rows)); !slices.Equal(got, want) {
			t.Errorf("MinimalCause(%v) = %v, but of only these rows %v", p, rows, got)
		}
	}
}

func TestExactSolutionsAreNotChangedAndNotShared(t *testing.T) {
	for _, p := range slices.Concat(edgeProblems(), contradictions()[:60], tiedProblems()[:60], invalidProblems()) {
		arg := spareProblem(p)
		for _, list := range [][]int{nil, ints(0), ints(0, 1), ints(1, 2, 3), ints(3, 2)} {
			rows := spare(list)
			checkMemory(t, "a function of chapter 22", []any{arg, rows}, func() []any {
				x, cost := impl.SolveExact(arg)
				return []any{x, cost, impl.CountBest(arg), impl.CauseOk(arg, rows), impl.MinimalCause(arg)}
			})
		}
	}
}
