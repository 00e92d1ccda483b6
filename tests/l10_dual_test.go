package tests

import (
	"math/big"
	"slices"
	"testing"

	"loop.example/integerplanner/impl"
)

// wantRats returns numbers divided by another one; nil if one of the quotients is not valid.
func wantRats(list []int, den int) []impl.Rat {
	var rats []impl.Rat
	for _, num := range list {
		a, ok := ratOf(big.NewRat(int64(num), int64(den)))
		if !ok {
			return nil
		}
		rats = append(rats, a)
	}
	return rats
}

// wantSolved returns the dictionary of SolveRelax of a valid problem, and its code.
func wantSolved(p impl.Problem) (impl.Dict, int) {
	path, code := wantPath(p)
	return path[len(path)-1], code
}

// wantPoint returns what RelaxPoint returns for a valid problem.
func wantPoint(p impl.Problem) []impl.Rat {
	d, code := wantSolved(p)
	if code != impl.StepBest {
		return nil
	}
	return wantRats(valuesIn(d), d.Det)
}

// valuesIn returns the values of the variables of a problem in a dictionary of it, times Det.
func valuesIn(d impl.Dict) []int {
	values := make([]int, len(d.Free))
	for v := range values {
		if i := slices.Index(d.Basic, v); i >= 0 {
			values[v] = d.Grid[i][len(d.Free)]
		}
	}
	return values
}

// wantDuals returns what RelaxDuals returns for a valid problem.
func wantDuals(p impl.Problem) []impl.Rat {
	d, code := wantSolved(p)
	if code != impl.StepBest {
		return nil
	}
	return wantRats(multipliersIn(d), d.Det)
}

// multipliersIn returns the multipliers of the rows in a dictionary of a problem, times Det.
func multipliersIn(d impl.Dict) []int {
	values := make([]int, len(d.Basic))
	for i := range values {
		if j := slices.Index(d.Free, len(d.Free)+i); j >= 0 {
			values[i] = d.Grid[len(d.Basic)][j]
		}
	}
	return values
}

// wantFarkas returns what FarkasOf returns for a valid problem.
func wantFarkas(p impl.Problem) []int {
	d, code := wantSolved(p)
	if code != impl.StepNone {
		return nil
	}
	return refutationIn(d)
}

// refutationIn returns the multipliers that a dictionary of a problem without solution shows.
func refutationIn(d impl.Dict) []int {
	row := slices.Index(d.Basic, slices.Min(failedVars(d)))
	w := make([]int, len(d.Basic))
	for i := range w {
		if d.Basic[row] == len(d.Free)+i {
			w[i] = d.Det
		}
		if j := slices.Index(d.Free, len(d.Free)+i); j >= 0 {
			w[i] = -d.Grid[row][j]
		}
	}
	return w
}

// wantSum returns the sum of the products of valid rational numbers and numbers, added up in order, and whether all products and sums are valid.
func wantSum(a []impl.Rat, b []int) (impl.Rat, bool) {
	sum := new(big.Rat)
	all := true
	for i, v := range a {
		product := new(big.Rat).Mul(bigOf(v), big.NewRat(int64(b[i]), 1))
		_, ok := ratOf(product)
		_, also := ratOf(sum.Add(sum, product))
		all = all && ok && also
	}
	result, _ := ratOf(sum)
	if !all {
		return impl.Rat{}, false
	}
	return result, true
}

// wantProof returns what CheckDuals returns for a valid problem and as many valid rational numbers as it has cover rows.
func wantProof(p impl.Problem, y []impl.Rat) (impl.Rat, bool) {
	rows := wantCover(p)
	column := func(number func(r impl.Row) int) []int {
		var list []int
		for _, r := range rows {
			list = append(list, number(r))
		}
		return list
	}
	for _, a := range y {
		if a.Num < 0 {
			return impl.Rat{}, false
		}
	}
	for v, cost := range p.Costs {
		sum, ok := wantSum(y, column(func(r impl.Row) int { return r.Coefs[v] }))
		if !ok || bigOf(sum).Cmp(big.NewRat(int64(cost), 1)) > 0 {
			return impl.Rat{}, false
		}
	}
	return wantSum(y, column(func(r impl.Row) int { return r.Bound }))
}

// smallProblems returns problems that do not have very many points.
func smallProblems() []impl.Problem {
	return slices.DeleteFunc(relaxProblems(), func(p impl.Problem) bool {
		points := 1
		for _, u := range p.Uppers {
			points *= u + 1
		}
		return points > 3000
	})
}

// zeros returns n times the rational number 0.
func zeros(n int) []impl.Rat {
	return slices.Repeat([]impl.Rat{rat(0, 1)}, n)
}

// changedRat returns a copy of rational numbers with another one at a place.
func changedRat(list []impl.Rat, at int, value impl.Rat) []impl.Rat {
	other := slices.Clone(list)
	other[at] = value
	return other
}

// multipliers returns valid rational numbers for the cover rows of a problem, some of them proofs.
func multipliers(p impl.Problem) [][]impl.Rat {
	n := len(wantCover(p))
	list := [][]impl.Rat{zeros(n)}
	best := wantDuals(p)
	if best == nil {
		best = zeros(n)
	}
	list = append(list, best)
	r := numbers()
	for i := range n {
		for _, a := range []impl.Rat{rat(0, 1), rat(1, 1), rat(r.Intn(50), 1), rat(1, r.Intn(40)+1), rat(-1, 1), rat(-1, impl.MaxDen), rat(1, impl.MaxDen), rat(impl.MaxNum, 1), rat(impl.MaxNum, impl.MaxDen-1)} {
			list = append(list, changedRat(best, i, a))
		}
	}
	for range 10 {
		y := zeros(n)
		for i := range y {
			if r.Intn(3) == 0 {
				y[i], _ = ratOf(big.NewRat(int64(r.Intn(60)), int64(r.Intn(12)+1)))
			}
		}
		list = append(list, y)
	}
	return list
}

func TestRelaxValuePointAndDuals(t *testing.T) {
	fractions := 0
	for _, p := range relaxProblems() {
		d, code := wantSolved(p)
		var want impl.Rat
		if code == impl.StepBest {
			want, _ = ratOf(big.NewRat(int64(d.Grid[len(d.Basic)][len(d.Free)]), int64(d.Det)))
		}
		if got, ok := impl.RelaxValue(p); got != want || ok != (code == impl.StepBest) {
			t.Errorf("RelaxValue(%v) = %v, %t, want %v", p, got, ok, want)
		}
		if got := impl.RelaxPoint(p); !slices.Equal(got, wantPoint(p)) {
			t.Errorf("RelaxPoint(%v) = %v, want %v", p, got, wantPoint(p))
		}
		if got := impl.RelaxDuals(p); !slices.Equal(got, wantDuals(p)) {
			t.Errorf("RelaxDuals(%v) = %v, want %v", p, got, wantDuals(p))
		}
		if got := impl.FarkasOf(p); !slices.Equal(got, wantFarkas(p)) {
			t.Errorf("FarkasOf(%v) = %v, want %v", p, got, wantFarkas(p))
		}
		if want.Den > 1 {
			fractions++
		}
	}
	if fractions < 50 {
		t.Errorf("only %d values are no integers", fractions)
	}
}

func TestRelaxedProblems(t *testing.T) {
	for _, c := range []struct {
		p        impl.Problem
		value    impl.Rat
		x, y     []impl.Rat
		multiple []int
	}{
		// Without rows nothing costs anything.
		{problem(ints(0), ints(0)), rat(0, 1), zeros(1), zeros(1), nil}, {problem(ints(3, 99), ints(4, 9)), rat(0, 1), zeros(2), zeros(2), nil},
		{problem(ints(3, 2), ints(4, 4), row(2, 5, 2, 1)), rat(15, 2), ratsOf([][2]int{{5, 2}, {0, 1}}), ratsOf([][2]int{{3, 2}, {0, 1}, {0, 1}}), nil},
		// Bounds have multipliers, too.
		{problem(ints(3, 4), ints(2, 4), row(2, 5, 2, 1)), rat(10, 1), ratsOf([][2]int{{2, 1}, {1, 1}}), ratsOf([][2]int{{4, 1}, {5, 1}, {0, 1}}), nil},
		// Both rows of an equality.
		{problem(ints(2, 3), ints(9, 9), row(3, 7, 1, 2)), rat(21, 2), ratsOf([][2]int{{0, 1}, {7, 2}}), ratsOf([][2]int{{3, 2}, {0, 1}, {0, 1}, {0, 1}}), nil},
		{problem(ints(2, 3), ints(9, 9), row(3, -7, -1, -2)), rat(21, 2), ratsOf([][2]int{{0, 1}, {7, 2}}), ratsOf([][2]int{{0, 1}, {3, 2}, {0, 1}, {0, 1}}), nil},
		{problem(ints(0, 3), ints(9, 9), row(1, -3, -2, 1)), rat(0, 1), ratsOf([][2]int{{3, 2}, {0, 1}}), zeros(3), nil},
		// Without solution there is only a proof of that.
		{problem(ints(1), ints(3), row(2, 7, 2)), impl.Rat{}, nil, nil, ints(1, 2)}, {problem(ints(1), ints(3), row(2, 1, 0)), impl.Rat{}, nil, nil, ints(1, 0)},
		{problem(ints(1), ints(3), row(1, -1, 9)), impl.Rat{}, nil, nil, ints(1, 0)}, {problem(ints(1), ints(9), row(3, -3, 0)), impl.Rat{}, nil, nil, ints(0, 1, 0)},
		{problem(ints(1, 1), ints(9, 9), row(2, 5, 2, 3), row(1, 4, 2, 3)), impl.Rat{}, nil, nil, ints(3, 3, 0, 0)},
		// The row of the last step is that of a variable, which has no multiplier.
		{problem(ints(0, 1), ints(3, 4), row(2, 1, 1, 2), row(2, 2, -2, -3)), impl.Rat{}, nil, nil, ints(3, 2, 0, 0)}, {problem(ints(2, 1), ints(3, 3), row(1, -1, -1, -3), row(1, -2, 0, 2)), impl.Rat{}, nil, nil, ints(0, 1, 0, 0)},
	} {
		if got, ok := impl.RelaxValue(c.p); got != c.value || ok != (c.x != nil) {
			t.Errorf("RelaxValue(%v) = %v, %t", c.p, got, ok)
		}
		if got := impl.RelaxPoint(c.p); !slices.Equal(got, c.x) {
			t.Errorf("RelaxPoint(%v) = %v", c.p, got)
		}
		if got := impl.RelaxDuals(c.p); !slices.Equal(got, c.y) {
			t.Errorf("RelaxDuals(%v) = %v", c.p, got)
		}
		if got := impl.FarkasOf(c.p); !slices.Equal(got, c.multiple) {
			t.Errorf("FarkasOf(%v) = %v", c.p, got)
		}
	}
}

func TestRelaxingWithInvalidArguments(t *testing.T) {
	check := func(p impl.Problem) {
		if got, ok := impl.RelaxValue(p); ok || got != rat(0, 0) {
			t.Errorf("RelaxValue(%v) = %v, %t", p, got, ok)
		}
		if x, y := impl.RelaxPoint(p), impl.RelaxDuals(p); len(x) > 0 || len(y) > 0 {
			t.Errorf("%v has the point %v and the duals %v", p, x, y)
		}
	}
	for _, p := range invalidProblems() {
		check(p)
		if got := impl.FarkasOf(p); len(got) > 0 {
			t.Errorf("FarkasOf(%v) = %v", p, got)
		}
		for n := range 20 {
			if got, ok := impl.CheckDuals(p, zeros(n)); ok || got != rat(0, 0) {
				t.Errorf("CheckDuals(%v, %v) = %v, %t", p, zeros(n), got, ok)
			}
			if impl.CheckFarkas(p, make([]int, n)) || impl.CheckFarkas(p, slices.Repeat(ints(1), n)) {
				t.Errorf("CheckFarkas(%v) accepts %d numbers", p, n)
			}
		}
	}
	// Numbers that are too large tell nothing.
	for _, p := range wideProblems() {
		check(p)
		if got := impl.FarkasOf(p); len(got) > 0 {
			t.Errorf("FarkasOf(%v) = %v", p, got)
		}
	}
}

func TestCheckDuals(t *testing.T) {
	accepted, refused := 0, 0
	for _, p := range relaxProblems() {
		for _, y := range multipliers(p) {
			want, wantOk := wantProof(p, y)
			if got, ok := impl.CheckDuals(p, y); got != want || ok != wantOk {
				t.Errorf("CheckDuals(%v, %v) = %v, %t, want %v, %t", p, y, got, ok, want, wantOk)
			}
			if wantOk {
				accepted++
			} else {
				refused++
			}
		}
	}
	if accepted < 1000 || refused < 1000 {
		t.Errorf("%d multipliers are accepted, and %d are not", accepted, refused)
	}
}

func TestCheckDualsAtLimits(t *testing.T) {
	const n, d = impl.MaxNum, impl.MaxDen
	p := problem(ints(3, 2), ints(4, 4), row(2, 5, 2, 1))
	long := problem(ints(99, 0), ints(9, 0), row(2, 0, 1, 0), row(2, 0, 1, 0), row(2, 0, -1, 0), row(2, 99, 0, -9))
	for _, c := range []struct {
		p    impl.Problem
		y    [][2]int
		want impl.Rat
		ok   bool
	}{
		{p, [][2]int{{3, 2}, {0, 1}, {0, 1}}, rat(15, 2), true}, {p, [][2]int{{0, 1}, {0, 1}, {0, 1}}, rat(0, 1), true}, {p, [][2]int{{1, 1}, {0, 1}, {0, 1}}, rat(5, 1), true},
		// One sum is the cost, and then it is more.
		{p, [][2]int{{2, 1}, {0, 1}, {0, 1}}, rat(0, 0), false}, {p, [][2]int{{2, 1}, {1, 1}, {0, 1}}, rat(6, 1), true}, {p, [][2]int{{3, 1}, {3, 1}, {0, 1}}, rat(0, 0), false}, {p, [][2]int{{3, 1}, {3, 1}, {1, 1}}, rat(-1, 1), true}, {p, [][2]int{{15001, 10000}, {0, 1}, {0, 1}}, rat(0, 0), false},
		{p, [][2]int{{0, 1}, {5, 1}, {7, 3}}, rat(-88, 3), true},
		// Negative multipliers prove nothing, and neither do invalid ones.
		{p, [][2]int{{-1, 1}, {0, 1}, {0, 1}}, rat(0, 0), false}, {p, [][2]int{{1, 1}, {0, 1}, {-1, d}}, rat(0, 0), false}, {p, [][2]int{{0, 1}, {-1, 2}, {0, 1}}, rat(0, 0), false},
		{p, [][2]int{{2, 2}, {0, 1}, {0, 1}}, rat(0, 0), false}, {p, [][2]int{{1, 1}, {0, 0}, {0, 1}}, rat(0, 0), false}, {p, [][2]int{{1, 1}, {0, 1}, {0, 2}}, rat(0, 0), false}, {p, [][2]int{{1, 1}, {0, 1}, {1, d + 1}}, rat(0, 0), false}, {p, [][2]int{{1, 1}, {n + 1, 1}, {0, 1}}, rat(0, 0), false}, {p, [][2]int{{1, 1}, {leastInt, leastInt}, {0, 1}}, rat(0, 0), false}, {p, [][2]int{{-1, -1}, {0, 1}, {0, 1}}, rat(0, 0), false},
		// There is one multiplier for each row.
		{p, [][2]int{{1, 1}, {0, 1}}, rat(0, 0), false}, {p, [][2]int{{1, 1}, {0, 1}, {0, 1}, {0, 1}}, rat(0, 0), false}, {p, nil, rat(0, 0), false}, {problem(ints(0), ints(0)), nil, rat(0, 0), false}, {problem(ints(0), ints(0)), [][2]int{{0, 1}}, rat(0, 1), true},
		// Products and sums at the limits: bounds of -4 and denominators.
		{p, [][2]int{{0, 1}, {n / 4, 1}, {0, 1}}, rat(-n, 1), true}, {p, [][2]int{{0, 1}, {n/4 + 1, 1}, {0, 1}}, rat(0, 0), false}, {p, [][2]int{{0, 1}, {n / 8, 1}, {n / 8, 1}}, rat(-n, 1), true}, {p, [][2]int{{0, 1}, {n / 8, 1}, {n/8 + 1, 1}}, rat(0, 0), false},
		{p, [][2]int{{1, d}, {0, 1}, {0, 1}}, rat(1, d/5), true}, {p, [][2]int{{1, 3}, {1, d}, {0, 1}}, rat(0, 0), false}, {p, [][2]int{{0, 1}, {1, d}, {1, d - 1}}, rat(0, 0), false},
		// The sum of the first variable is too large at first, or never.
		{long, [][2]int{{n, 1}, {1, 1}, {n, 1}, {0, 1}, {0, 1}, {0, 1}}, rat(0, 0), false}, {long, [][2]int{{n, 1}, {0, 1}, {n, 1}, {0, 1}, {0, 1}, {0, 1}}, rat(0, 1), true}, {long, [][2]int{{n, 1}, {0, 1}, {n, 1}, {0, 1}, {1, 1}, {0, 1}}, rat(-9, 1), true}, {long, [][2]int{{n - 1, 1}, {1, 1}, {n, 1}, {0, 1}, {1, 1}, {0, 1}}, rat(-9, 1), true},
		{long, [][2]int{{0, 1}, {0, 1}, {n, 1}, {0, 1}, {1, 1}, {0, 1}}, rat(0, 0), false}, {long, [][2]int{{0, 1}, {0, 1}, {n - 1, 1}, {0, 1}, {1, 1}, {0, 1}}, rat(-9, 1), true},
		// The bound is at its limit.
		{long, [][2]int{{0, 1}, {0, 1}, {0, 1}, {n / 99, 1}, {0, 1}, {0, 1}}, rat(n/99*99, 1), true}, {long, [][2]int{{0, 1}, {0, 1}, {0, 1}, {n/99 + 1, 1}, {0, 1}, {0, 1}}, rat(0, 0), false}, {long, [][2]int{{0, 1}, {0, 1}, {0, 1}, {n/99 + 1, 1}, {n, 1}, {0, 1}}, rat(0, 0), false},
	} {
		if got, ok := impl.CheckDuals(c.p, ratsOf(c.y)); got != c.want || ok != c.ok {
			t.Errorf("CheckDuals(%v, %v) = %v, %t, want %v, %t", c.p, c.y, got, ok, c.want, c.ok)
		}
	}
}

func TestCheckDualsWithInvalidNumbers(t *testing.T) {
	for _, p := range relaxProblems() {
		y := zeros(len(wantCover(p)))
		for i := range y {
			for _, a := range invalidRats() {
				if got, ok := impl.CheckDuals(p, changedRat(y, i, a)); ok || got != rat(0, 0) {
					t.Errorf("CheckDuals(%v, %v) = %v, %t", p, changedRat(y, i, a), got, ok)
				}
			}
		}
	}
}

// wantRefuted reports whether CheckFarkas accepts numbers for a valid problem.
func wantRefuted(p impl.Problem, w []int) bool {
	rows := wantCover(p)
	if len(w) != len(rows) || len(w) > 0 && (slices.Min(w) < 0 || slices.Max(w) > impl.MaxEntry) {
		return false
	}
	sum := func(number func(r impl.Row) int) *big.Int {
		total := new(big.Int)
		for i, r := range rows {
			total.Add(total, new(big.Int).Mul(big.NewInt(int64(w[i])), big.NewInt(int64(number(r)))))
		}
		return total
	}
	for v := range p.Costs {
		if sum(func(r impl.Row) int { return r.Coefs[v] }).Sign() > 0 {
			return false
		}
	}
	return sum(func(r impl.Row) int { return r.Bound }).Sign() > 0
}

// weightLists returns numbers for the cover rows of a problem, some of them proofs.
func weightLists(p impl.Problem) [][]int {
	n := len(wantCover(p))
	base := wantFarkas(p)
	if base == nil {
		base = make([]int, n)
	}
	list := [][]int{nil, base, make([]int, n), slices.Repeat(ints(1), n), slices.Repeat(ints(impl.MaxEntry), n), append(slices.Clone(base), 0), base[1:]}
	for i, v := range base {
		for _, a := range []int{0, 1, -1, v + 1, v - 1, v + v/3 + 2, impl.MaxEntry, impl.MaxEntry + 1, greatestInt, leastInt} {
			list = append(list, changed(base, i, a))
		}
	}
	r := numbers()
	for range 20 {
		list = append(list, randomNumbers(r, n, 0, 5))
	}
	return list
}

func TestCheckFarkas(t *testing.T) {
	accepted, refused := 0, 0
	for _, p := range relaxProblems() {
		for _, w := range weightLists(p) {
			want := wantRefuted(p, w)
			if got := impl.CheckFarkas(p, w); got != want {
				t.Errorf("CheckFarkas(%v, %v) = %t", p, w, got)
			}
			if want {
				accepted++
			} else {
				refused++
			}
		}
	}
	if accepted < 500 || refused < 1000 {
		t.Errorf("%d lists are accepted, and %d are not", accepted, refused)
	}
}

func TestProofsAtLimits(t *testing.T) {
	const m = impl.MaxEntry
	p := problem(ints(1), ints(3), row(2, 7, 2))
	two := problem(ints(1, 1), ints(9, 9), row(2, 5, 2, 3), row(1, 4, 2, 3))
	for _, c := range []struct {
		p    impl.Problem
		w    []int
		want bool
	}{
		{p, ints(1, 2), true}, {p, ints(m/2, m), true}, {p, ints(m/2+1, m), false}, {p, ints(m/2, m+1), false}, {p, ints(2, 5), false}, {p, ints(3, 6), true}, {p, ints(3, 7), false}, {p, ints(4, 9), true},
		{p, ints(0, 0), false}, {p, ints(1, 0), false}, {p, ints(0, 1), false}, {p, ints(1), false}, {p, ints(1, 2, 0), false}, {p, nil, false}, {p, ints(-1, 2), false}, {p, ints(1, -2), false},
		{two, ints(2, 2, 0, 0), true}, {two, ints(m, m, 0, 0), true}, {two, ints(m, m, 1, 0), true}, {two, ints(m, m+1, 0, 0), false}, {two, ints(1, 1, -1, 0), false}, {two, ints(1, 1, 0, 1), false}, {two, ints(2, 1, 0, 0), false}, {two, ints(1, 2, 0, 0), false},
		{problem(ints(1), ints(0), row(2, 1, 9)), ints(m, m), false}, {problem(ints(1), ints(0), row(2, 1, 9)), ints(1, 9), true}, {problem(ints(1), ints(0), row(2, 0, 9)), ints(1, 9), false}, {problem(ints(1), ints(0)), ints(1), false}, {problem(ints(1), ints(0), row(1, -1, 0)), ints(1, 0), true},
	} {
		if got := impl.CheckFarkas(c.p, c.w); got != c.want {
			t.Errorf("CheckFarkas(%v, %v) = %t", c.p, c.w, got)
		}
	}
}

func TestP60WithoutRationalSolutionThereIsNoIntegerOne(t *testing.T) {
	none := 0
	for _, p := range smallProblems() {
		if _, code := impl.SolveRelax(p); code == impl.StepNone {
			none++
			if n := impl.CountFeasible(p); n != 0 {
				t.Errorf("%v has no rational solution, but %d feasible points", p, n)
			}
		}
	}
	if none < 20 {
		t.Errorf("only %d problems without rational solution", none)
	}
}

func TestP61TheRelaxationIsALowerBound(t *testing.T) {
	bounded, less := 0, 0
	for _, p := range append(relaxProblems(), demandProblems()...) {
		value, ok := impl.RelaxValue(p)
		_, least := impl.SolveExact(p)
		if least < 0 || !ok {
			continue
		}
		sign := impl.CompareRat(value, rat(least, 1))
		if sign > 0 {
			t.Errorf("RelaxValue(%v) = %v, but a point has the cost %d", p, value, least)
		}
		bounded++
		less -= sign
	}
	if bounded < 200 || less < 50 {
		t.Errorf("%d problems have solutions, %d of them with a lower relaxation", bounded, less)
	}
}

func TestP62TheRelaxedPointSatisfiesAllRows(t *testing.T) {
	points := 0
	for _, p := range relaxProblems() {
		x := impl.RelaxPoint(p)
		if x == nil {
			continue
		}
		points++
		for _, r := range impl.CoverRows(p) {
			left := new(big.Rat)
			for v, c := range r.Coefs {
				left.Add(left, new(big.Rat).Mul(bigOf(x[v]), big.NewRat(int64(c), 1)))
			}
			if left.Cmp(big.NewRat(int64(r.Bound), 1)) < 0 || impl.CutViolated(r, x) {
				t.Errorf("RelaxPoint(%v) = %v, which violates %v", p, x, r)
			}
		}
		for _, a := range x {
			if a.Num < 0 {
				t.Errorf("RelaxPoint(%v) = %v", p, x)
			}
		}
	}
	if points < 100 {
		t.Errorf("only %d points", points)
	}
}

func TestP63TheRelaxedPointHasTheRelaxedValue(t *testing.T) {
	for _, p := range relaxProblems() {
		value, ok := impl.RelaxValue(p)
		x := impl.RelaxPoint(p)
		if ok != (len(x) == len(p.Costs)) {
			t.Errorf("RelaxValue(%v) = %v, %t, but RelaxPoint is %v", p, value, ok, x)
		}
		if !ok {
			continue
		}
		sum := new(big.Rat)
		for v, cost := range p.Costs {
			sum.Add(sum, new(big.Rat).Mul(bigOf(x[v]), big.NewRat(int64(cost), 1)))
		}
		if sum.Cmp(bigOf(value)) != 0 {
			t.Errorf("RelaxPoint(%v) = %v has the cost %v, not %v", p, x, sum, value)
		}
	}
}

func TestP64TheBoundOfTheMultipliersIsReached(t *testing.T) {
	reached, wide := 0, 0
	for _, p := range relaxProblems() {
		value, ok := impl.RelaxValue(p)
		y := impl.RelaxDuals(p)
		if ok != (len(y) == len(wantCover(p))) {
			t.Errorf("RelaxValue(%v) = %v, %t, but RelaxDuals is %v", p, value, ok, y)
		}
		if !ok {
			continue
		}
		bound, valid := impl.CheckDuals(p, y)
		if valid && bound != value {
			t.Errorf("CheckDuals(%v, %v) = %v, not %v", p, y, bound, value)
		}
		if valid {
			reached++
		} else {
			wide++
		}
		// The multipliers are a proof even where their sums are not valid.
		if want, wantOk := wantProof(p, y); valid != wantOk || bound != want {
			t.Errorf("CheckDuals(%v, %v) = %v, %t, want %v, %t", p, y, bound, valid, want, wantOk)
		}
	}
	if reached < 100 || reached < 10*wide {
		t.Errorf("%d bounds are reached, and %d are not valid", reached, wide)
	}
}

func TestP65MultipliersProveLowerBounds(t *testing.T) {
	for _, p := range smallProblems() {
		value, ok := impl.RelaxValue(p)
		_, least := impl.SolveExact(p)
		for _, y := range multipliers(p) {
			bound, proved := impl.CheckDuals(p, y)
			if !proved {
				continue
			}
			if ok && impl.CompareRat(bound, value) > 0 || least >= 0 && impl.CompareRat(bound, rat(least, 1)) > 0 {
				t.Errorf("CheckDuals(%v, %v) = %v, but the relaxation is %v, and the least cost %d", p, y, bound, value, least)
			}
		}
	}
}

func TestP66ProblemsWithoutSolutionHaveAProof(t *testing.T) {
	proofs, ofVariables := 0, 0
	for _, p := range relaxProblems() {
		d, code := impl.SolveRelax(p)
		w := impl.FarkasOf(p)
		if (code == impl.StepNone) != (len(w) > 0) {
			t.Errorf("SolveRelax(%v) has the code %d, but FarkasOf is %v", p, code, w)
		}
		if len(w) == 0 {
			continue
		}
		proofs++
		if !impl.CheckFarkas(p, w) {
			t.Errorf("CheckFarkas(%v, %v) = false", p, w)
		}
		// The row of a variable of the problem has no slack of its own.
		if v := slices.Min(failedVars(d)); v < len(p.Costs) {
			ofVariables++
		}
	}
	if proofs < 40 || ofVariables < 5 {
		t.Errorf("%d proofs, %d of them by rows of variables", proofs, ofVariables)
	}
}

// failedVars returns the basic variables with a negative last number.
func failedVars(d impl.Dict) []int {
	var list []int
	for i, v := range d.Basic {
		if d.Grid[i][len(d.Free)] < 0 {
			list = append(list, v)
		}
	}
	return list
}

func TestP67ProofsThatThereIsNoSolutionAreTrue(t *testing.T) {
	accepted := 0
	for _, p := range smallProblems() {
		count, x := impl.CountFeasible(p), impl.RelaxPoint(p)
		for _, w := range weightLists(p) {
			if !impl.CheckFarkas(p, w) {
				continue
			}
			accepted++
			if count != 0 || len(x) > 0 {
				t.Errorf("CheckFarkas(%v, %v) = true, but there are %d points, and the relaxed one is %v", p, w, count, x)
			}
		}
	}
	if accepted < 100 {
		t.Errorf("only %d proofs are accepted", accepted)
	}
}

func TestDualsAreNotChangedAndNotShared(t *testing.T) {
	for _, p := range append(relaxProblems(), invalidProblems()...) {
		arg := spareProblem(p)
		y := append(impl.RelaxDuals(p), zeros(2)...)
		w := append(impl.FarkasOf(p), 0, 0)
		checkMemory(t, "a function of chapter 10", []any{arg, y, w}, func() []any {
			value, ok := impl.RelaxValue(arg)
			bound, proved := impl.CheckDuals(arg, y[:len(y)-2])
			return []any{value, ok, impl.RelaxPoint(arg), impl.RelaxDuals(arg), bound, proved, impl.FarkasOf(arg), impl.CheckFarkas(arg, w[:len(w)-2])}
		})
	}
}
