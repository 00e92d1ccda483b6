package tests

import (
	"slices"
	"testing"

	"loop.example/integerplanner/impl"
)

func box(low []int, high []int) impl.Box {
	return impl.Box{Low: low, High: high}
}

// cloneBox returns a copy of a box.
func cloneBox(b impl.Box) impl.Box {
	return box(slices.Clone(b.Low), slices.Clone(b.High))
}

// spareBox returns a copy of a box with marks in its spare capacity.
func spareBox(b impl.Box) impl.Box {
	return box(spare(b.Low), spare(b.High))
}

func sameBox(a impl.Box, b impl.Box) bool {
	return slices.Equal(a.Low, b.Low) && slices.Equal(a.High, b.High)
}

// noBox reports whether a box is the zero value, nil or empty.
func noBox(b impl.Box) bool {
	return sameBox(b, impl.Box{})
}

// wholeBox returns the box of all points of a problem.
func wholeBox(p impl.Problem) impl.Box {
	return box(make([]int, len(p.Uppers)), slices.Clone(p.Uppers))
}

// inBox reports whether a point is in a box.
func inBox(b impl.Box, x []int) bool {
	for i, v := range x {
		if !within(v, b.Low[i], b.High[i]) {
			return false
		}
	}
	return true
}

// validBoxes returns boxes of a problem, the largest one and boxes of one point among them.
func validBoxes(p impl.Problem) []impl.Box {
	n := len(p.Uppers)
	list := []impl.Box{wholeBox(p), box(make([]int, n), make([]int, n)), box(slices.Clone(p.Uppers), slices.Clone(p.Uppers))}
	r := numbers()
	for k := range 12 {
		b := box(make([]int, n), make([]int, n))
		for i, u := range p.Uppers {
			b.Low[i] = r.Intn(u + 1)
			b.High[i] = r.Intn(u-b.Low[i]+1) + b.Low[i]
			if k%4 == 0 && r.Intn(2) == 0 {
				b.High[i] = b.Low[i]
			}
		}
		list = append(list, b)
	}
	return list
}

// invalidBoxes returns boxes with one fault each.
func invalidBoxes(p impl.Problem) []impl.Box {
	whole := wholeBox(p)
	list := []impl.Box{{}, box(nil, whole.High), box(whole.Low, nil)}
	for _, x := range noPoints(p) {
		list = append(list, box(x, whole.High), box(whole.Low, x), box(x, x))
	}
	for i, u := range p.Uppers {
		if u > 0 {
			list = append(list, box(changed(whole.Low, i, 1), changed(whole.High, i, 0)), box(changed(whole.Low, i, u), changed(whole.High, i, u-1)))
		}
	}
	return list
}

// rowNumbers returns numbers that are not those of a row of a problem.
func rowNumbers(p impl.Problem) []int {
	return ints(-1, len(p.Rows), len(p.Rows)+1, greatestInt, leastInt)
}

// wantRange returns the least and the greatest value of a left side at the points of a box.
func wantRange(coefs []int, b impl.Box) (int, int) {
	least, greatest := greatestInt, leastInt
	for _, x := range pointsBetween(b.Low, b.High) {
		least, greatest = min(least, dot(coefs, x)), max(greatest, dot(coefs, x))
	}
	return least, greatest
}

// leastLeft returns the least value of a left side in a box with the value v for one of the variables.
func leastLeft(coefs []int, b impl.Box, at int, v int) int {
	sum := 0
	for i, c := range coefs {
		switch {
		case i == at:
			sum += c * v
		case c > 0:
			sum += c * b.Low[i]
		default:
			sum += c * b.High[i]
		}
	}
	return sum
}

// wantAtMost removes value by value what a row with AtMost does not leave of a box.
func wantAtMost(b impl.Box, coefs []int, bound int) bool {
	for i, c := range coefs {
		for c > 0 && leastLeft(coefs, b, i, b.High[i]) > bound {
			b.High[i]--
			if b.High[i] < b.Low[i] {
				return false
			}
		}
		for c < 0 && leastLeft(coefs, b, i, b.Low[i]) > bound {
			b.Low[i]++
			if b.Low[i] > b.High[i] {
				return false
			}
		}
	}
	return leastLeft(coefs, b, -1, 0) <= bound
}

// wantTight returns what a row leaves of a box, and whether it leaves a point.
func wantTight(b impl.Box, r impl.Row) (impl.Box, bool) {
	tight := cloneBox(b)
	var negated []int
	for _, c := range r.Coefs {
		negated = append(negated, -c)
	}
	ok := true
	if r.Sense != impl.AtLeast {
		ok = wantAtMost(tight, r.Coefs, r.Bound)
	}
	if r.Sense != impl.AtMost {
		ok = ok && wantAtMost(tight, negated, -r.Bound)
	}
	if !ok {
		return impl.Box{}, false
	}
	return tight, true
}

// wantAllTight returns what all rows leave of a box, and whether they leave a point.
func wantAllTight(p impl.Problem, b impl.Box) (impl.Box, bool) {
	tight := cloneBox(b)
	for range 100 {
		for _, r := range p.Rows {
			ok := false
			if tight, ok = wantTight(tight, r); !ok {
				return impl.Box{}, false
			}
		}
	}
	return tight, true
}

func TestStartBox(t *testing.T) {
	for _, p := range validProblems() {
		if b := impl.StartBox(p); !sameBox(b, wholeBox(p)) {
			t.Errorf("StartBox(%v) = %v", p, b)
		}
	}
	for _, p := range invalidProblems() {
		if b := impl.StartBox(p); !noBox(b) {
			t.Errorf("StartBox(%v) = %v", p, b)
		}
	}
}

func TestValidBox(t *testing.T) {
	for _, p := range validProblems() {
		for _, b := range validBoxes(p) {
			if !impl.ValidBox(p, b) {
				t.Errorf("ValidBox(%v, %v) = false", p, b)
			}
		}
		for _, b := range invalidBoxes(p) {
			if impl.ValidBox(p, b) {
				t.Errorf("ValidBox(%v, %v) = true", p, b)
			}
		}
	}
	for _, p := range invalidProblems() {
		for n := range impl.MaxVars + 2 {
			if b := box(make([]int, n), make([]int, n)); impl.ValidBox(p, b) {
				t.Errorf("ValidBox(%v, %v) = true", p, b)
			}
		}
	}
	p := problem(ints(1, 1), ints(4, 9))
	for _, c := range []struct {
		b    impl.Box
		want bool
	}{
		{box(ints(0, 0), ints(4, 9)), true}, {box(ints(4, 9), ints(4, 9)), true}, {box(ints(2, 3), ints(2, 4)), true},
		{box(ints(0, 0), ints(5, 9)), false}, {box(ints(0, 0), ints(4, 10)), false}, {box(ints(-1, 0), ints(4, 9)), false}, {box(ints(3, 0), ints(2, 9)), false}, {box(ints(0, 9), ints(4, 8)), false}, {box(ints(5, 0), ints(5, 9)), false}, {box(ints(0), ints(4)), false}, {box(ints(0, 0, 0), ints(4, 9, 0)), false},
	} {
		if got := impl.ValidBox(p, c.b); got != c.want {
			t.Errorf("ValidBox(%v, %v) = %t", p, c.b, got)
		}
	}
}

func TestRowRange(t *testing.T) {
	for _, p := range validProblems() {
		for k, b := range validBoxes(p) {
			if k == 0 && len(p.Uppers) == impl.MaxVars {
				continue // very many points
			}
			for i, r := range p.Rows {
				least, greatest := wantRange(r.Coefs, b)
				if low, high, ok := impl.RowRange(p, b, i); low != least || high != greatest || !ok {
					t.Errorf("RowRange(%v, %v, %d) = %d, %d, %t, want %d, %d", p, b, i, low, high, ok, least, greatest)
				}
			}
		}
	}
	nines, zeros := slices.Repeat(ints(9), 5), make([]int, 5)
	p := problem(nines, nines, row(1, 1, nines...), row(3, 1, -9, -9, -9, -9, -9), row(2, 1, 0, 0, 0, 0, 0), row(2, 1, 9, -9, 0, 1, -1))
	for i, want := range [][2]int{{0, 405}, {-405, 0}, {0, 0}, {-90, 90}} {
		if low, high, ok := impl.RowRange(p, box(zeros, nines), i); low != want[0] || high != want[1] || !ok {
			t.Errorf("RowRange of row %d = %d, %d, %t", i, low, high, ok)
		}
	}
	if low, high, ok := impl.RowRange(p, box(ints(1, 2, 0, 3, 4), ints(2, 4, 9, 3, 5)), 3); low != -29 || high != -1 || !ok {
		t.Errorf("RowRange = %d, %d, %t", low, high, ok)
	}
}

// TestTightenByQuotients has quotients of positive and negative numbers that must be rounded.
func TestTightenByQuotients(t *testing.T) {
	for _, c := range []struct {
		r          impl.Row
		b          impl.Box
		low, high  []int
		impossible bool
	}{
		{r: row(1, 7, 2), b: box(ints(0), ints(9)), low: ints(0), high: ints(3)},
		{r: row(1, 8, 2), b: box(ints(0), ints(9)), low: ints(0), high: ints(4)},
		{r: row(1, -7, -2), b: box(ints(0), ints(9)), low: ints(4), high: ints(9)},
		{r: row(1, -8, -2), b: box(ints(0), ints(9)), low: ints(4), high: ints(9)},
		{r: row(1, 7, -2), b: box(ints(0), ints(9)), low: ints(0), high: ints(9)},
		{r: row(1, -1, 2), b: box(ints(0), ints(9)), impossible: true},
		{r: row(1, -1, 9), b: box(ints(0), ints(0)), impossible: true},
		{r: row(1, 0, 9), b: box(ints(0), ints(9)), low: ints(0), high: ints(0)},
		{r: row(1, -1, -9), b: box(ints(0), ints(9)), low: ints(1), high: ints(9)},
		{r: row(1, 7, 2), b: box(ints(4), ints(9)), impossible: true},
		{r: row(1, 7, 2), b: box(ints(3), ints(9)), low: ints(3), high: ints(3)},
		{r: row(1, -19, -2), b: box(ints(0), ints(9)), impossible: true},
		{r: row(1, -18, -2), b: box(ints(0), ints(9)), low: ints(9), high: ints(9)},
		{r: row(2, 7, 2), b: box(ints(0), ints(9)), low: ints(4), high: ints(9)},
		{r: row(2, -7, -2), b: box(ints(0), ints(9)), low: ints(0), high: ints(3)},
		{r: row(2, -7, 2), b: box(ints(0), ints(9)), low: ints(0), high: ints(9)},
		{r: row(2, 1, -2), b: box(ints(0), ints(9)), impossible: true},
		{r: row(3, 6, 3), b: box(ints(0), ints(9)), low: ints(2), high: ints(2)},
		{r: row(3, -6, -3), b: box(ints(0), ints(9)), low: ints(2), high: ints(2)},
		{r: row(3, 7, 2), b: box(ints(0), ints(9)), impossible: true},
		{r: row(3, -7, -2), b: box(ints(0), ints(9)), impossible: true},
		// The rest is negative, and its quotients are not.
		{r: row(1, 3, 2, -3), b: box(ints(0, 0), ints(9, 2)), low: ints(0, 0), high: ints(4, 2)},
		{r: row(1, -5, 2, -3), b: box(ints(0, 0), ints(9, 4)), low: ints(0, 2), high: ints(3, 4)},
		{r: row(1, -5, -3, 2), b: box(ints(0, 0), ints(4, 9)), low: ints(2, 0), high: ints(4, 3)},
		{r: row(1, -11, 2, -3), b: box(ints(0, 0), ints(9, 4)), low: ints(0, 4), high: ints(0, 4)},
		{r: row(1, -13, 2, -3), b: box(ints(0, 0), ints(9, 4)), impossible: true},
		// The second variable is tightened in the box that the first one has left.
		{r: row(3, 5, 1, 1), b: box(ints(0, 0), ints(9, 3)), low: ints(2, 0), high: ints(5, 3)},
		{r: row(3, 0, 2, -3), b: box(ints(1, 1), ints(9, 4)), low: ints(2, 1), high: ints(6, 4)},
		{r: row(3, 1, 4, -6), b: box(ints(0, 0), ints(2, 2)), low: ints(1, 0), high: ints(2, 1)},
		// Coefficients of 0 change nothing, but all of them can contradict the bound.
		{r: row(1, 4, 0, 2), b: box(ints(1, 0), ints(8, 9)), low: ints(1, 0), high: ints(8, 2)},
		{r: row(1, 0, 0, 0), b: box(ints(1, 2), ints(3, 4)), low: ints(1, 2), high: ints(3, 4)},
		{r: row(2, 0, 0, 0), b: box(ints(1, 2), ints(3, 4)), low: ints(1, 2), high: ints(3, 4)},
		{r: row(3, 0, 0, 0), b: box(ints(1, 2), ints(3, 4)), low: ints(1, 2), high: ints(3, 4)},
		{r: row(1, -1, 0, 0), b: box(ints(1, 2), ints(3, 4)), impossible: true},
		{r: row(2, 1, 0, 0), b: box(ints(1, 2), ints(3, 4)), impossible: true},
		{r: row(3, 1, 0, 0), b: box(ints(1, 2), ints(3, 4)), impossible: true},
		{r: row(3, -1, 0, 0), b: box(ints(1, 2), ints(3, 4)), impossible: true},
		{r: row(1, 99, 0, 0), b: box(ints(1, 2), ints(3, 4)), low: ints(1, 2), high: ints(3, 4)},
	} {
		n := len(c.b.Low)
		p := problem(make([]int, n), slices.Repeat(ints(9), n), row(2, 1, make([]int, n)...), c.r)
		if got, ok := impl.TightenRow(p, c.b, 1); ok == c.impossible || !sameBox(got, box(c.low, c.high)) {
			t.Errorf("TightenRow of %v by %v = %v, %t", c.b, c.r, got, ok)
		}
	}
}

func TestTightenRow(t *testing.T) {
	left, none, smaller := 0, 0, 0
	for _, p := range validProblems() {
		for _, b := range validBoxes(p) {
			for i, r := range p.Rows {
				want, wantOk := wantTight(b, r)
				if got, ok := impl.TightenRow(p, b, i); ok != wantOk || !sameBox(got, want) {
					t.Errorf("TightenRow(%v, %v, %d) = %v, %t, want %v, %t", p, b, i, got, ok, want, wantOk)
				}
				switch {
				case !wantOk:
					none++
				case sameBox(b, want):
					left++
				default:
					smaller++
				}
			}
		}
	}
	if left < 500 || none < 500 || smaller < 500 {
		t.Errorf("%d boxes stay, %d have no point left, and %d become smaller", left, none, smaller)
	}
}

func TestTightenAll(t *testing.T) {
	for _, p := range validProblems() {
		for _, b := range validBoxes(p) {
			want, wantOk := wantAllTight(p, b)
			if got, ok := impl.TightenAll(p, b); ok != wantOk || !sameBox(got, want) {
				t.Errorf("TightenAll(%v, %v) = %v, %t, want %v, %t", p, b, got, ok, want, wantOk)
			}
		}
	}
	for _, c := range []struct {
		p         impl.Problem
		b         impl.Box
		low, high []int
	}{
		{problem(ints(3, 2), ints(4, 4), row(2, 5, 2, 1), row(1, 4, 1, 1)), box(ints(0, 0), ints(4, 4)), ints(1, 0), ints(4, 3)},
		{problem(ints(0, 0), ints(9, 9)), box(ints(1, 2), ints(3, 2)), ints(1, 2), ints(3, 2)},
		// Every round makes the first variable smaller by 1, until none is left.
		{problem(ints(0, 0), ints(9, 9), row(1, -1, 1, -1), row(1, 0, -1, 1)), box(ints(0, 0), ints(9, 9)), nil, nil},
		{problem(ints(0, 0), ints(9, 9), row(1, -1, 1, -1), row(1, 0, -2, 1)), box(ints(0, 0), ints(9, 9)), ints(1, 2), ints(8, 9)},
		// The first row changes something only after the last one has.
		{problem(ints(0, 0, 0), ints(9, 9, 9), row(1, 0, 1, -1, 0), row(1, 0, 0, 1, -1), row(1, 2, 0, 0, 1)), box(ints(0, 0, 0), ints(9, 9, 9)), ints(0, 0, 0), ints(2, 2, 2)},
		{problem(ints(0, 0, 0), ints(9, 9, 9), row(1, 0, 1, -1, 0), row(1, 0, 0, 1, -1), row(1, 2, 0, 0, 1)), box(ints(3, 0, 0), ints(9, 9, 9)), nil, nil},
		{problem(ints(1), ints(9), row(3, 7, 2)), box(ints(0), ints(9)), nil, nil}, {problem(ints(1), ints(9), row(1, -1, 0)), box(ints(0), ints(9)), nil, nil},
		{problem(ints(1), ints(9), row(1, 0, 0)), box(ints(0), ints(9)), ints(0), ints(9)}, {problem(ints(1), ints(0)), box(ints(0), ints(0)), ints(0), ints(0)},
	} {
		if got, ok := impl.TightenAll(c.p, c.b); ok != (c.low != nil) || !sameBox(got, box(c.low, c.high)) {
			t.Errorf("TightenAll(%v, %v) = %v, %t", c.p, c.b, got, ok)
		}
	}
}

func TestRedundantRows(t *testing.T) {
	some := 0
	for _, p := range validProblems() {
		for k, b := range validBoxes(p) {
			if k == 0 && len(p.Uppers) == impl.MaxVars {
				continue // very many points
			}
			var want []int
			for i, r := range p.Rows {
				least, greatest := wantRange(r.Coefs, b)
				if wantHolds(least, r.Sense, r.Bound) && wantHolds(greatest, r.Sense, r.Bound) {
					want = append(want, i)
				}
			}
			if got := impl.RedundantRows(p, b); !slices.Equal(got, want) {
				t.Errorf("RedundantRows(%v, %v) = %v, want %v", p, b, got, want)
			}
			some += len(want)
		}
	}
	if some < 500 {
		t.Errorf("only %d rows are redundant", some)
	}
	p := problem(ints(0, 0), ints(9, 9), row(1, 7, 2, -1), row(1, 6, 2, -1), row(2, -2, 2, -1), row(2, -1, 2, -1))
	if got := impl.RedundantRows(p, box(ints(1, 1), ints(4, 4))); !slices.Equal(got, ints(0, 2)) {
		t.Errorf("RedundantRows = %v", got)
	}
	q := problem(ints(0, 0), ints(9, 9), row(3, 3, 2, -1), row(3, 4, 2, -1), row(3, 0, 0, 0), row(1, -1, 0, 0), row(2, 0, 0, 0), row(3, 6, 2, 0))
	if got := impl.RedundantRows(q, box(ints(3, 3), ints(3, 3))); !slices.Equal(got, ints(0, 2, 4, 5)) {
		t.Errorf("RedundantRows of a point = %v", got)
	}
	if got := impl.RedundantRows(q, box(ints(3, 3), ints(3, 4))); !slices.Equal(got, ints(2, 4, 5)) {
		t.Errorf("RedundantRows of two points = %v", got)
	}
}

func TestBoxesWithInvalidArguments(t *testing.T) {
	check := func(p impl.Problem, b impl.Box, i int) {
		if low, high, ok := impl.RowRange(p, b, i); low != 0 || high != 0 || ok {
			t.Errorf("RowRange(%v, %v, %d) = %d, %d, %t", p, b, i, low, high, ok)
		}
		if got, ok := impl.TightenRow(p, b, i); !noBox(got) || ok {
			t.Errorf("TightenRow(%v, %v, %d) = %v, %t", p, b, i, got, ok)
		}
	}
	checkAll := func(p impl.Problem, b impl.Box) {
		check(p, b, 0)
		if got, ok := impl.TightenAll(p, b); !noBox(got) || ok {
			t.Errorf("TightenAll(%v, %v) = %v, %t", p, b, got, ok)
		}
		if got := impl.RedundantRows(p, b); len(got) > 0 {
			t.Errorf("RedundantRows(%v, %v) = %v", p, b, got)
		}
	}
	for _, p := range validProblems() {
		for _, b := range validBoxes(p) {
			for _, i := range rowNumbers(p) {
				check(p, b, i)
			}
		}
		for _, b := range invalidBoxes(p) {
			checkAll(p, b)
		}
	}
	for _, p := range invalidProblems() {
		for n := range impl.MaxVars + 2 {
			checkAll(p, box(make([]int, n), make([]int, n)))
		}
	}
}

// TestP40AllPointsAreInTheFirstBox is a promise of StartBox and ValidBox.
func TestP40AllPointsAreInTheFirstBox(t *testing.T) {
	for _, p := range validProblems() {
		b := impl.StartBox(p)
		if !impl.ValidBox(p, b) {
			t.Errorf("StartBox(%v) = %v", p, b)
			continue
		}
		best, _ := impl.SolveExact(p)
		for _, x := range append(somePoints(p), best) {
			if !inBox(b, x) {
				t.Errorf("%v is not in %v", x, b)
			}
		}
	}
}

// cheapestIn returns the cheapest feasible point of a problem in a box and its cost, as SolveExact does; nil and -1 if there is
// none. It reports whether the problem can be stated for the values above the lows.
func cheapestIn(p impl.Problem, b impl.Box) ([]int, int, bool) {
	q := clone(p)
	for v := range q.Uppers {
		q.Uppers[v] = b.High[v] - b.Low[v]
	}
	for i := range q.Rows {
		q.Rows[i].Bound -= dot(q.Rows[i].Coefs, b.Low)
	}
	x, cost := impl.SolveExact(q)
	if cost >= 0 {
		cost += dot(p.Costs, b.Low)
	}
	for v := range x {
		x[v] += b.Low[v]
	}
	return x, cost, impl.ValidProblem(q)
}

func TestP42TheRangeOfARowIsExact(t *testing.T) {
	for _, p := range validProblems() {
		for _, b := range validBoxes(p) {
			for i, r := range p.Rows {
				low, high, ok := impl.RowRange(p, b, i)
				if !ok || !within(dot(r.Coefs, b.Low), low, high) || !within(dot(r.Coefs, b.High), low, high) {
					t.Errorf("RowRange(%v, %v, %d) = %d, %d, %t", p, b, i, low, high, ok)
				}
				reached := [2]bool{}
				for corner := range 1 << len(b.Low) {
					x := slices.Clone(b.Low)
					for v := range x {
						if corner>>v&1 == 1 {
							x[v] = b.High[v]
						}
					}
					left := dot(r.Coefs, x)
					if !within(left, low, high) {
						t.Errorf("RowRange(%v, %v, %d) = %d, %d, but %d at %v", p, b, i, low, high, left, x)
					}
					reached[0] = reached[0] || left == low
					reached[1] = reached[1] || left == high
				}
				if reached != [2]bool{true, true} {
					t.Errorf("RowRange(%v, %v, %d) = %d, %d, which no corner has", p, b, i, low, high)
				}
			}
		}
	}
}

// TestP43And45NoCheapestPointIsLost shows it for the points of SolveExact.
func TestP43And45NoCheapestPointIsLost(t *testing.T) {
	kept, none := 0, 0
	for _, p := range exactProblems() {
		for _, b := range validBoxes(p) {
			x, cost, stated := cheapestIn(p, b)
			if !stated {
				continue
			}
			tight, ok := impl.TightenAll(p, b)
			if cost >= 0 && (!ok || !inBox(tight, x)) {
				t.Errorf("TightenAll(%v, %v) = %v, %t, which loses %v", p, b, tight, ok, x)
			}
			for i := range p.Rows {
				if tight, ok := impl.TightenRow(p, b, i); cost >= 0 && (!ok || !inBox(tight, x)) {
					t.Errorf("TightenRow(%v, %v, %d) = %v, %t, which loses %v", p, b, i, tight, ok, x)
				}
			}
			if cost >= 0 {
				kept++
			} else {
				none++
			}
		}
	}
	if kept < 1000 || none < 1000 {
		t.Errorf("%d boxes have a cheapest point, and %d have none", kept, none)
	}
}

// TestP43TighteningKeepsWhatARowAllows shows it for all points, not only for a cheapest one.
func TestP43TighteningKeepsWhatARowAllows(t *testing.T) {
	for _, p := range validProblems() {
		points := somePoints(p)
		for _, b := range validBoxes(p) {
			for i := range p.Rows {
				tight, ok := impl.TightenRow(p, b, i)
				if ok && (!impl.ValidBox(p, tight) || !inBox(b, tight.Low) || !inBox(b, tight.High)) {
					t.Errorf("TightenRow(%v, %v, %d) = %v", p, b, i, tight)
				}
				for _, x := range points {
					if inBox(b, x) && impl.RowHolds(p.Rows[i], x) && (!ok || !inBox(tight, x)) {
						t.Errorf("TightenRow(%v, %v, %d) = %v, %t, which loses %v", p, b, i, tight, ok, x)
					}
				}
			}
		}
	}
}

func TestP44TighteningAllRowsEnds(t *testing.T) {
	ended := 0
	for _, p := range validProblems() {
		for _, b := range validBoxes(p) {
			tight, ok := impl.TightenAll(p, b)
			if !ok {
				continue
			}
			ended++
			if again, ok := impl.TightenAll(p, tight); !ok || !sameBox(again, tight) {
				t.Errorf("TightenAll(%v, %v) = %v, and then %v, %t", p, b, tight, again, ok)
			}
			for i := range p.Rows {
				if again, ok := impl.TightenRow(p, tight, i); !ok || !sameBox(again, tight) {
					t.Errorf("TightenAll(%v, %v) = %v, but row %d makes %v of it", p, b, tight, i, again)
				}
			}
		}
	}
	if ended < 500 {
		t.Errorf("only %d boxes have points left", ended)
	}
}

// TestP45NoFeasiblePointIsLost shows it for all feasible points, not only for a cheapest one.
func TestP45NoFeasiblePointIsLost(t *testing.T) {
	for _, p := range validProblems() {
		points := feasiblePoints(p)
		for _, b := range validBoxes(p) {
			tight, ok := impl.TightenAll(p, b)
			if ok && (!impl.ValidBox(p, tight) || !inBox(b, tight.Low) || !inBox(b, tight.High)) {
				t.Errorf("TightenAll(%v, %v) = %v", p, b, tight)
			}
			for _, x := range points {
				if inBox(b, x) && (!ok || !inBox(tight, x)) {
					t.Fatalf("TightenAll(%v, %v) = %v, %t, which loses %v", p, b, tight, ok, x)
				}
			}
		}
	}
}

func TestP46RedundantRowsSayNothing(t *testing.T) {
	left := 0
	for _, p := range validProblems() {
		q := clone(p)
		list := impl.RedundantRows(p, impl.StartBox(p))
		if !slices.IsSorted(list) {
			t.Fatalf("RedundantRows(%v) = %v", p, list)
		}
		for _, i := range slices.Backward(list) {
			q = without(q, i)
		}
		if a, b := impl.CountFeasible(p), impl.CountFeasible(q); a != b {
			t.Errorf("%v has %d points, but %d without the rows %v", p, a, b, list)
		}
		left += len(list)
	}
	if left < 20 {
		t.Errorf("only %d rows are redundant", left)
	}
}

func TestP47WhatIsRedundantInABoxIsSoInASmallerOne(t *testing.T) {
	for _, p := range validProblems() {
		list := impl.RedundantRows(p, impl.StartBox(p))
		for _, b := range validBoxes(p) {
			smaller := impl.RedundantRows(p, b)
			for _, i := range list {
				if !slices.Contains(smaller, i) {
					t.Errorf("row %d of %v is redundant, but not in %v", i, p, b)
				}
			}
		}
	}
}

func TestBoxesAreNotChangedAndNotShared(t *testing.T) {
	for _, p := range append(validProblems(), invalidProblems()...) {
		arg := spareProblem(p)
		checkMemory(t, "StartBox", []any{arg}, func() []any { return []any{impl.StartBox(arg)} })
	}
	for k, p := range append(edgeProblems(), validProblems()[100:]...) {
		arg := spareProblem(p)
		for _, b := range append(validBoxes(p)[:8], invalidBoxes(p)[k%10]) {
			of := spareBox(b)
			checkMemory(t, "a function of chapter 7", []any{arg, of}, func() []any {
				list := []any{impl.ValidBox(arg, of), impl.RedundantRows(arg, of)}
				tight, ok := impl.TightenAll(arg, of)
				list = append(list, tight, ok)
				for i := range arg.Rows {
					tight, ok := impl.TightenRow(arg, of, i)
					low, high, _ := impl.RowRange(arg, of, i)
					list = append(list, tight, ok, low, high)
				}
				return list
			})
		}
	}
}
