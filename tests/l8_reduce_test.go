package tests

import (
	"slices"
	"testing"

	"loop.example/integerplanner/impl"
)

// wantReduced returns what ReduceProblem returns for a valid box of a valid problem.
func wantReduced(p impl.Problem, b impl.Box) (impl.Problem, []int, bool) {
	var q impl.Problem
	var kept []int
	for v := range p.Uppers {
		if b.High[v] > b.Low[v] {
			kept = append(kept, v)
			q.Costs = append(q.Costs, p.Costs[v])
			q.Uppers = append(q.Uppers, b.High[v]-b.Low[v])
		}
	}
	ok := len(kept) > 0
	for _, r := range p.Rows {
		least, greatest := leastLeft(r.Coefs, b, -1, 0), leastLeft(r.Coefs, box(b.High, b.Low), -1, 0)
		if wantHolds(least, r.Sense, r.Bound) && wantHolds(greatest, r.Sense, r.Bound) {
			continue
		}
		left := row(r.Sense, r.Bound)
		for v, c := range r.Coefs {
			left.Bound -= c * b.Low[v]
			if b.High[v] > b.Low[v] {
				left.Coefs = append(left.Coefs, c)
			}
		}
		ok = ok && within(left.Bound, -impl.MaxBound, impl.MaxBound)
		q.Rows = append(q.Rows, left)
	}
	if !ok {
		return impl.Problem{}, nil, false
	}
	return q, kept, true
}

func TestBaseCost(t *testing.T) {
	for _, p := range validProblems() {
		for _, b := range validBoxes(p) {
			if got := impl.BaseCost(p, b); got != dot(p.Costs, b.Low) {
				t.Errorf("BaseCost(%v, %v) = %d", p, b, got)
			}
		}
	}
	p := problem(ints(3, 0, 99), ints(9, 9, 9), row(1, -99, 1, 1, 1))
	for _, c := range []struct {
		b    impl.Box
		want int
	}{{box(ints(2, 5, 1), ints(9, 9, 9)), 105}, {box(ints(0, 0, 0), ints(9, 9, 9)), 0}, {box(ints(9, 9, 9), ints(9, 9, 9)), 918}, {box(ints(0, 9, 0), ints(0, 9, 0)), 0}} {
		if got := impl.BaseCost(p, c.b); got != c.want {
			t.Errorf("BaseCost(%v, %v) = %d", p, c.b, got)
		}
	}
}

func TestReduceProblem(t *testing.T) {
	made, failed, rows, fixed := 0, 0, 0, 0
	for _, p := range validProblems() {
		for _, b := range validBoxes(p) {
			want, wantKept, wantOk := wantReduced(p, b)
			q, kept, ok := impl.ReduceProblem(p, b)
			if ok != wantOk || !sameProblem(q, want) || !slices.Equal(kept, wantKept) {
				t.Errorf("ReduceProblem(%v, %v) = %v, %v, %t, want %v, %v, %t", p, b, q, kept, ok, want, wantKept, wantOk)
			}
			if wantOk {
				made++
				rows += len(want.Rows)
				fixed += len(p.Costs) - len(kept)
			} else {
				failed++
			}
		}
	}
	if made < 500 || failed < 200 || rows < 500 || fixed < 500 {
		t.Errorf("%d reduced problems have %d rows, and lack %d variables; %d fail", made, rows, fixed, failed)
	}
}

func TestReducedProblems(t *testing.T) {
	for _, c := range []struct {
		p    impl.Problem
		b    impl.Box
		want impl.Problem
		kept []int
	}{
		{problem(ints(3, 2), ints(4, 4), row(2, 5, 2, 1), row(1, 4, 1, 1)), box(ints(2, 1), ints(2, 2)), problem(ints(2), ints(1)), ints(1)},
		{problem(ints(3, 2), ints(4, 4), row(2, 5, 2, 1), row(1, 4, 1, 1)), box(ints(1, 0), ints(4, 3)), problem(ints(3, 2), ints(3, 3), row(2, 3, 2, 1), row(1, 3, 1, 1)), ints(0, 1)},
		{problem(ints(7, 8, 9), ints(9, 9, 9), row(1, 5, 1, -2, 3), row(3, 6, 0, 2, 1), row(2, 1, 0, 1, 0)), box(ints(1, 2, 0), ints(4, 2, 5)), problem(ints(7, 9), ints(3, 5), row(1, 8, 1, 3), row(3, 2, 0, 1)), ints(0, 2)},
		// Nothing is fixed, and everything is.
		{problem(ints(1, 2), ints(3, 4), row(3, 5, 1, 1)), box(ints(0, 0), ints(3, 4)), problem(ints(1, 2), ints(3, 4), row(3, 5, 1, 1)), ints(0, 1)},
		{problem(ints(1, 2), ints(3, 4), row(3, 5, 1, 1)), box(ints(2, 3), ints(2, 3)), impl.Problem{}, nil},
		{problem(ints(1, 2), ints(3, 4)), box(ints(0, 0), ints(0, 0)), impl.Problem{}, nil},
		{problem(ints(1), ints(0)), box(ints(0), ints(0)), impl.Problem{}, nil},
		// A row without variables that are left stays if it does not hold.
		{problem(ints(1, 2), ints(3, 4), row(1, 1, 0, 1)), box(ints(0, 2), ints(3, 2)), problem(ints(1), ints(3), row(1, -1, 0)), ints(0)},
		{problem(ints(1, 2), ints(3, 4), row(1, 2, 0, 1)), box(ints(0, 2), ints(3, 2)), problem(ints(1), ints(3)), ints(0)},
		{problem(ints(1, 2), ints(3, 4), row(2, 1, 0, 0), row(1, 0, 0, 0)), box(ints(0, 2), ints(3, 2)), problem(ints(1), ints(3), row(2, 1, 0)), ints(0)},
		// The bound of a row that is left is at its limits, or behind them.
		{problem(ints(1, 2), ints(9, 9), row(1, -18, 9, 0)), box(ints(9, 0), ints(9, 1)), problem(ints(2), ints(1), row(1, -99, 0)), ints(1)},
		{problem(ints(1, 2), ints(9, 9), row(1, -19, 9, 0)), box(ints(9, 0), ints(9, 1)), impl.Problem{}, nil},
		{problem(ints(1, 2), ints(9, 9), row(2, 18, -9, 0)), box(ints(9, 0), ints(9, 1)), problem(ints(2), ints(1), row(2, 99, 0)), ints(1)},
		{problem(ints(1, 2), ints(9, 9), row(2, 19, -9, 0)), box(ints(9, 0), ints(9, 1)), impl.Problem{}, nil},
		{problem(ints(1, 2), ints(9, 9), row(1, 99, -9, 0)), box(ints(9, 0), ints(9, 1)), problem(ints(2), ints(1)), ints(1)},
		{problem(ints(1, 2), ints(9, 9), row(1, 99, 9, 0), row(3, 99, -9, 0)), box(ints(9, 0), ints(9, 1)), impl.Problem{}, nil},
	} {
		q, kept, ok := impl.ReduceProblem(c.p, c.b)
		if ok != (c.kept != nil) || !sameProblem(q, c.want) || !slices.Equal(kept, c.kept) {
			t.Errorf("ReduceProblem(%v, %v) = %v, %v, %t", c.p, c.b, q, kept, ok)
		}
	}
}

func TestRestorePoint(t *testing.T) {
	for _, p := range validProblems() {
		for _, b := range validBoxes(p) {
			var width []int
			for v := range b.Low {
				if b.High[v] > b.Low[v] {
					width = append(width, b.High[v]-b.Low[v])
				}
			}
			some := problem(make([]int, len(width)), width)
			for _, y := range somePoints(some) {
				want, next := slices.Clone(b.Low), 0
				for v := range want {
					if b.High[v] > b.Low[v] {
						want[v] += y[next]
						next++
					}
				}
				if got, ok := impl.RestorePoint(p, b, y); !ok || !slices.Equal(got, want) {
					t.Errorf("RestorePoint(%v, %v, %v) = %v, %t, want %v", p, b, y, got, ok, want)
				}
			}
			if len(width) == 0 {
				continue
			}
			for _, y := range noPoints(some) {
				if got, ok := impl.RestorePoint(p, b, y); ok || len(got) > 0 {
					t.Errorf("RestorePoint(%v, %v, %v) = %v, %t", p, b, y, got, ok)
				}
			}
		}
	}
}

func TestRestoredPoints(t *testing.T) {
	p := problem(ints(3, 2, 1), ints(4, 4, 9), row(1, 99, 1, 1, 1))
	for _, c := range []struct {
		b    impl.Box
		y    []int
		want []int
	}{
		{box(ints(2, 1, 3), ints(2, 2, 9)), ints(1, 6), ints(2, 2, 9)}, {box(ints(2, 1, 3), ints(2, 2, 9)), ints(0, 0), ints(2, 1, 3)}, {box(ints(2, 1, 3), ints(2, 2, 9)), ints(1, 0), ints(2, 2, 3)},
		{box(ints(2, 1, 3), ints(2, 2, 9)), ints(2, 0), nil}, {box(ints(2, 1, 3), ints(2, 2, 9)), ints(0, 7), nil}, {box(ints(2, 1, 3), ints(2, 2, 9)), ints(-1, 0), nil}, {box(ints(2, 1, 3), ints(2, 2, 9)), ints(0, -1), nil},
		{box(ints(2, 1, 3), ints(2, 2, 9)), ints(0), nil}, {box(ints(2, 1, 3), ints(2, 2, 9)), ints(0, 0, 0), nil}, {box(ints(2, 1, 3), ints(2, 2, 9)), nil, nil},
		// Without variables that are left, the lows are the only point.
		{box(ints(2, 1, 3), ints(2, 1, 3)), nil, ints(2, 1, 3)}, {box(ints(2, 1, 3), ints(2, 1, 3)), ints(), ints(2, 1, 3)}, {box(ints(2, 1, 3), ints(2, 1, 3)), ints(0), nil}, {box(ints(2, 1, 3), ints(2, 1, 3)), ints(0, 0, 0), nil},
	} {
		if got, ok := impl.RestorePoint(p, c.b, c.y); ok != (c.want != nil) || !slices.Equal(got, c.want) {
			t.Errorf("RestorePoint(%v, %v) = %v, %t", c.b, c.y, got, ok)
		}
	}
	// The bound of the row is too large for a reduced problem, but the points of the box are the same.
	q := problem(ints(1, 2), ints(9, 9), row(1, -19, 9, 0))
	if got, ok := impl.RestorePoint(q, box(ints(9, 0), ints(9, 1)), ints(1)); !ok || !slices.Equal(got, ints(9, 1)) {
		t.Errorf("RestorePoint = %v, %t", got, ok)
	}
}

func TestReducingWithInvalidArguments(t *testing.T) {
	check := func(p impl.Problem, b impl.Box) {
		if n := impl.BaseCost(p, b); n != -1 {
			t.Errorf("BaseCost(%v, %v) = %d", p, b, n)
		}
		if q, kept, ok := impl.ReduceProblem(p, b); !noProblem(q) || len(kept) > 0 || ok {
			t.Errorf("ReduceProblem(%v, %v) = %v, %v, %t", p, b, q, kept, ok)
		}
		for n := range len(b.Low) + 1 {
			if x, ok := impl.RestorePoint(p, b, make([]int, min(n, 6))); len(x) > 0 || ok {
				t.Errorf("RestorePoint(%v, %v) = %v, %t", p, b, x, ok)
			}
		}
	}
	for _, p := range validProblems() {
		for _, b := range invalidBoxes(p) {
			if len(b.Low) < 10 {
				check(p, b)
			}
		}
	}
	for _, p := range invalidProblems() {
		for n := range impl.MaxVars + 2 {
			check(p, box(make([]int, n), make([]int, n)))
			check(p, box(make([]int, n), slices.Repeat(ints(1), n)))
		}
	}
}

func TestP41ABoxIsMadeOfPoints(t *testing.T) {
	for _, p := range validProblems() {
		for _, b := range validBoxes(p) {
			low, high := impl.CostOf(p, b.Low), impl.CostOf(p, b.High)
			if low < 0 || high < low || impl.BaseCost(p, b) != low {
				t.Errorf("%v has the costs %d and %d, and BaseCost %d", b, low, high, impl.BaseCost(p, b))
			}
		}
		for _, b := range invalidBoxes(p) {
			if impl.BaseCost(p, b) != -1 {
				t.Errorf("BaseCost(%v, %v) = %d", p, b, impl.BaseCost(p, b))
			}
		}
	}
}

func TestP48TheLowsAreCheapest(t *testing.T) {
	equal, less := 0, 0
	for _, p := range exactProblems() {
		for _, b := range validBoxes(p) {
			_, cost, stated := cheapestIn(p, b)
			base := impl.BaseCost(p, b)
			if !stated || cost < 0 {
				continue
			}
			if base > cost {
				t.Errorf("BaseCost(%v, %v) = %d, but a point costs %d", p, b, base, cost)
			}
			if base < cost {
				less++
			} else {
				equal++
			}
		}
	}
	if equal < 500 || less < 500 {
		t.Errorf("the cheapest point costs as much as the lows in %d boxes, and more in %d", equal, less)
	}
}

func TestP49ReducedProblemsCostWhatIsLeft(t *testing.T) {
	reduced, tightened := 0, 0
	for _, p := range exactProblems() {
		x, cost := impl.SolveExact(p)
		b, ok := impl.TightenAll(p, impl.StartBox(p))
		if !ok {
			if cost >= 0 {
				t.Errorf("TightenAll(%v) fails, but %v costs %d", p, x, cost)
			}
			continue
		}
		q, _, ok := impl.ReduceProblem(p, b)
		if !ok {
			continue
		}
		y, left := impl.SolveExact(q)
		if (left < 0) != (cost < 0) || left >= 0 && left+impl.BaseCost(p, b) != cost {
			t.Errorf("%v costs %d, but %v costs %d beside %v", p, cost, q, left, b)
		}
		if restored, ok := impl.RestorePoint(p, b, y); left >= 0 && (!ok || !slices.Equal(restored, x)) {
			t.Errorf("the solution of %v is %v, but %v, %t of %v", p, x, restored, ok, q)
		}
		reduced++
		if impl.BaseCost(p, b) > 0 || len(q.Costs) < len(p.Costs) {
			tightened++
		}
	}
	if reduced < 200 || tightened < 50 {
		t.Errorf("only %d problems are reduced, %d of them to something else", reduced, tightened)
	}
}

func TestP50ReducedProblemsAreValid(t *testing.T) {
	for _, p := range validProblems() {
		for _, b := range validBoxes(p) {
			q, kept, ok := impl.ReduceProblem(p, b)
			if !ok {
				continue
			}
			open := 0
			for v := range b.Low {
				if b.Low[v] < b.High[v] {
					open++
				}
			}
			if !impl.ValidProblem(q) || len(q.Costs) != open || len(kept) != open || len(q.Rows) > len(p.Rows) {
				t.Errorf("ReduceProblem(%v, %v) = %v, %v", p, b, q, kept)
			}
		}
	}
}

func TestP51RestoredPointsCostWhatIsLeft(t *testing.T) {
	feasible := [2]int{}
	for _, p := range validProblems() {
		for _, b := range validBoxes(p) {
			q, _, ok := impl.ReduceProblem(p, b)
			if !ok {
				continue
			}
			for _, y := range somePoints(q) {
				x, ok := impl.RestorePoint(p, b, y)
				if !ok || !inBox(b, x) || impl.CostOf(p, x) != impl.BaseCost(p, b)+impl.CostOf(q, y) {
					t.Errorf("RestorePoint(%v, %v, %v) = %v, %t", p, b, y, x, ok)
					continue
				}
				f := impl.Feasible(p, x)
				if f != impl.Feasible(q, y) {
					t.Errorf("%v is feasible for %v: %t, but not so %v for %v", x, p, f, y, q)
				}
				if f {
					feasible[1]++
				} else {
					feasible[0]++
				}
			}
		}
	}
	if feasible[0] < 1000 || feasible[1] < 1000 {
		t.Errorf("too few points are feasible or not: %v", feasible)
	}
}

func TestReducedProblemsAreNotChangedAndNotShared(t *testing.T) {
	for k, p := range append(edgeProblems(), validProblems()[100:]...) {
		arg := spareProblem(p)
		for _, b := range append(validBoxes(p)[:8], invalidBoxes(p)[k%10]) {
			of, y := spareBox(b), spare(nil)
			for v := range b.Low {
				if v < len(b.High) && b.Low[v] < b.High[v] {
					y = spare(append(slices.Clone(y), 1))
				}
			}
			checkMemory(t, "a function of chapter 8", []any{arg, of, y}, func() []any {
				q, kept, ok := impl.ReduceProblem(arg, of)
				x, restored := impl.RestorePoint(arg, of, y)
				return []any{impl.BaseCost(arg, of), q, kept, ok, x, restored}
			})
		}
	}
}
