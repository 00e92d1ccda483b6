package tests

import (
	"math/big"
	"math/rand"
	"slices"
	"testing"

	"loop.example/integerplanner/impl"
)

// dict returns a dictionary; the rows of its grid are the last arguments.
func dict(det int, basic []int, free []int, grid ...[]int) impl.Dict {
	return impl.Dict{Det: det, Basic: basic, Free: free, Grid: grid}
}

// cloneDict returns a copy of a dictionary without spare capacity.
func cloneDict(d impl.Dict) impl.Dict {
	e := dict(d.Det, slices.Clone(d.Basic), slices.Clone(d.Free))
	for _, line := range d.Grid {
		e.Grid = append(e.Grid, slices.Clone(line))
	}
	return e
}

// spareDict returns a copy of a dictionary with marks in the spare capacity of all slices.
func spareDict(d impl.Dict) impl.Dict {
	return dict(d.Det, spare(d.Basic), spare(d.Free), spareTable(d.Grid)...)
}

func sameDict(a impl.Dict, b impl.Dict) bool {
	return a.Det == b.Det && slices.Equal(a.Basic, b.Basic) && slices.Equal(a.Free, b.Free) && slices.EqualFunc(a.Grid, b.Grid, slices.Equal[[]int])
}

// noDict reports whether a dictionary is the zero value, nil or empty.
func noDict(d impl.Dict) bool {
	return sameDict(d, impl.Dict{})
}

// wantCover returns the rows of CoverRows of a valid problem.
func wantCover(p impl.Problem) []impl.Row {
	times := func(coefs []int, k int) []int {
		list := make([]int, len(coefs))
		for i, c := range coefs {
			list[i] = k * c
		}
		return list
	}
	var list []impl.Row
	for _, r := range p.Rows {
		if r.Sense == impl.AtLeast || r.Sense == impl.Equal {
			list = append(list, row(impl.AtLeast, r.Bound, times(r.Coefs, 1)...))
		}
		if r.Sense == impl.AtMost || r.Sense == impl.Equal {
			list = append(list, row(impl.AtLeast, -r.Bound, times(r.Coefs, -1)...))
		}
	}
	for i, u := range p.Uppers {
		list = append(list, row(impl.AtLeast, -u, changed(make([]int, len(p.Uppers)), i, -1)...))
	}
	return list
}

// wantStart returns the first dictionary of a valid problem.
func wantStart(p impl.Problem) impl.Dict {
	return wantDict(p.Costs, wantCover(p))
}

// wantDict returns the first dictionary of costs and rows.
func wantDict(costs []int, rows []impl.Row) impl.Dict {
	n := len(costs)
	d := impl.Dict{Det: 1}
	for v := range n {
		d.Free = append(d.Free, v)
	}
	for i, r := range rows {
		d.Basic = append(d.Basic, n+i)
		d.Grid = append(d.Grid, append(slices.Clone(r.Coefs), -r.Bound))
	}
	d.Grid = append(d.Grid, append(slices.Clone(costs), 0))
	return d
}

// wantPivot returns what DictPivot returns for a valid dictionary.
func wantPivot(d impl.Dict, row int, col int) (impl.Dict, bool) {
	if !within(row, 0, len(d.Basic)-1) || !within(col, 0, len(d.Free)-1) || d.Grid[row][col] <= 0 {
		return impl.Dict{}, false
	}
	e := cloneDict(d)
	e.Basic[row], e.Free[col] = d.Free[col], d.Basic[row]
	e.Det, e.Grid[row][col] = d.Grid[row][col], d.Det
	number := func(i int, j int) *big.Int { return big.NewInt(int64(d.Grid[i][j])) }
	for i, line := range d.Grid {
		for j, a := range line {
			switch {
			case i == row && j != col:
				e.Grid[i][j] = -a
			case i != row && j != col:
				left := new(big.Int).Mul(number(i, j), number(row, col))
				right := new(big.Int).Mul(number(i, col), number(row, j))
				quotient, rest := new(big.Int).QuoRem(left.Sub(left, right), big.NewInt(int64(d.Det)), new(big.Int))
				if rest.Sign() != 0 || quotient.CmpAbs(big.NewInt(impl.MaxEntry)) > 0 {
					return impl.Dict{}, false
				}
				e.Grid[i][j] = int(quotient.Int64())
			}
		}
	}
	return e, true
}

// wantStep returns what DictStep returns for a valid dictionary.
func wantStep(d impl.Dict) (impl.Dict, int) {
	last := len(d.Free)
	row, col := -1, -1
	// From the smallest variable on, so that the first one is the right one.
	for v := range len(d.Basic) + len(d.Free) {
		if i := slices.Index(d.Basic, v); row < 0 && i >= 0 && d.Grid[i][last] < 0 {
			row = i
		}
	}
	if row < 0 {
		return d, impl.StepBest
	}
	var least *big.Rat
	for v := range len(d.Basic) + len(d.Free) {
		j := slices.Index(d.Free, v)
		if j < 0 || d.Grid[row][j] <= 0 {
			continue
		}
		quotient := big.NewRat(int64(d.Grid[len(d.Basic)][j]), int64(d.Grid[row][j]))
		if least == nil || quotient.Cmp(least) < 0 {
			least, col = quotient, j
		}
	}
	if col < 0 {
		return d, impl.StepNone
	}
	if e, ok := wantPivot(d, row, col); ok {
		return e, impl.StepMoved
	}
	return d, impl.StepWide
}

// wantPath returns all dictionaries from StartDict of a valid problem to that of SolveRelax, and the code of the last step.
func wantPath(p impl.Problem) ([]impl.Dict, int) {
	return pathFrom(wantStart(p))
}

// pathFrom returns a valid dictionary and all that steps make of it, and the code of the last step.
func pathFrom(d impl.Dict) ([]impl.Dict, int) {
	list := []impl.Dict{d}
	for {
		d, code := wantStep(list[len(list)-1])
		if code != impl.StepMoved {
			return list, code
		}
		list = append(list, d)
	}
}

// wideProblems returns problems for which SolveRelax needs numbers that are too large.
func wideProblems() []impl.Problem {
	nines := slices.Repeat(ints(9), 5)
	return []impl.Problem{
		problem(ints(90, 98, 99, 94, 95), nines, row(2, 99, 9, 9, -9, 9, -8), row(2, 99, 9, -9, 9, 9, 9), row(2, 99, 9, 9, 9, 9, -9), row(2, 99, -4, 9, 9, -9, 9), row(2, 99, -9, -9, -9, 8, -9)),
		problem(ints(13, 93, 94, 79, 80), nines, row(2, 99, 9, 9, 9, -3, -9), row(2, 99, -5, -6, 9, 9, -9), row(2, 99, -9, 9, -9, -9, 9), row(2, 64, 8, -9, 9, 0, 9), row(2, 99, 9, -9, -9, 9, 2)),
		problem(ints(82, 81, 93, 92, 61), nines, row(2, 99, -7, 9, -7, 4, -9), row(2, -28, -9, -9, 9, 9, -3), row(2, -5, -8, 9, 9, -9, 5), row(2, 81, 9, -8, -9, 6, 6), row(2, 99, 9, -9, 9, 2, -9)),
	}
}

// relaxProblems returns problems for all codes of SolveRelax.
func relaxProblems() []impl.Problem {
	list := append(validProblems(), wideProblems()...)
	// At the end of these a variable of the problem is negative.
	list = append(list, problem(ints(0, 1), ints(3, 4), row(2, 1, 1, 2), row(2, 2, -2, -3)), problem(ints(2, 1), ints(2, 1), row(2, 4, 3, 2), row(1, 2, 2, 3)), problem(ints(2, 1), ints(3, 3), row(1, -1, -1, -3), row(1, -2, 0, 2)), problem(ints(2, 0), ints(1, 1), row(1, -4, -3, -2), row(2, 0, -1, -2)), problem(ints(1, 0), ints(4, 4), row(2, 4, 2, 1), row(1, -2, 3, 3)))
	// Large determinants, with and without solutions.
	r := numbers()
	for k := range 60 {
		p := problem(randomNumbers(r, 5, 0, 99), randomNumbers(r, 5, 5, 9))
		x := randomNumbers(r, 5, 0, 5)
		for range impl.MaxRows - k%2 {
			next := randomRow(r, x)
			if k%3 > 0 {
				next.Coefs = randomNumbers(r, 5, -9, 9)
				next.Bound = max(-99, min(99, dot(next.Coefs, x)))
			}
			p.Rows = append(p.Rows, next)
		}
		list = append(list, p)
	}
	return list
}

// randomDict returns a dictionary with any numbers of the variables.
func randomDict(r *rand.Rand, basic int, free int, det int, low int, high int) impl.Dict {
	vars := r.Perm(basic + free)
	d := dict(det, vars[:basic:basic], vars[basic:])
	for range basic + 1 {
		d.Grid = append(d.Grid, randomNumbers(r, free+1, low, high))
	}
	return d
}

// edgeDicts returns valid dictionaries at the limits, and with ties between rows and columns.
func edgeDicts() []impl.Dict {
	const m = impl.MaxEntry
	r := numbers()
	list := []impl.Dict{
		dict(1, nil, ints(0), ints(0, 0)), dict(m, nil, ints(0), ints(m, -m)), dict(7, nil, ints(4, 2, 0, 1, 3), ints(1, -2, 3, -4, 5, -6)), dict(m, ints(1), ints(0), ints(m, m), ints(-m, m)), dict(1, ints(0), ints(1), ints(1, -1), ints(1, 0)),
		dict(1, ints(4, 1, 2), ints(3, 0), ints(1, 1, -1), ints(1, 1, -1), ints(1, 1, -1), ints(2, 2, 0)), dict(1, ints(1, 4, 2), ints(3, 0), ints(0, -1, -1), ints(1, 1, -2), ints(1, 1, -2), ints(2, 2, 0)),
		dict(2, ints(2), ints(1, 0), ints(4, 2, -6), ints(2, 1, 8)), dict(3, ints(2), ints(1, 0), ints(4, 2, -6), ints(2, 1, 8)),
		dict(m, ints(1), ints(0), ints(m, -m), ints(m, m)), dict(1, ints(1), ints(0), ints(m, -m), ints(m, m)), dict(1, ints(1), ints(0), ints(1, -1), ints(1, m)), dict(1, ints(1), ints(0), ints(1, -1), ints(1, m-1)),
		randomDict(r, impl.MaxCover, impl.MaxVars, m, -m, m), randomDict(r, impl.MaxCover, impl.MaxVars, 1, -3, 3), randomDict(r, impl.MaxCover, 1, 1, -1, 1),
	}
	for k := range 60 {
		list = append(list, randomDict(r, k%8, k%5+1, k%4+1, -6, 6))
	}
	for k := range 60 {
		list = append(list, randomDict(r, k%4+1, k%5+1, 1, -50000*(k%2)-2, 50000*(k%2)+2), randomDict(r, k%4+1, k%5+1, r.Intn(m)+1, -m, m))
	}
	return list
}

// validDicts returns valid dictionaries: edgeDicts, dictionaries of problems, and others that pivots make of them.
func validDicts() []impl.Dict {
	list := edgeDicts()
	r := numbers()
	for k, p := range relaxProblems() {
		path, _ := wantPath(p)
		if k%3 == 0 {
			list = append(list, path[r.Intn(len(path))], path[len(path)-1])
		}
	}
	for _, d := range slices.Clone(list) {
		e, moved := d, false
		for range 4 * len(d.Basic) {
			if next, ok := wantPivot(e, r.Intn(len(d.Basic)), r.Intn(len(d.Free))); ok {
				e, moved = next, true
			}
		}
		if moved {
			list = append(list, e)
		}
	}
	return list
}

// invalidDicts returns dictionaries with one fault each.
func invalidDicts() []impl.Dict {
	base := dict(2, ints(3, 0, 4), ints(1, 2), ints(1, 2, -3), ints(4, 5, -6), ints(7, 8, -9), ints(1, 1, 1))
	list := []impl.Dict{{}, {Det: 1}, dict(1, nil, nil, nil), dict(1, nil, nil, ints(1)), dict(1, ints(0), nil, ints(1), ints(1)), dict(1, nil, ints(0)), dict(1, nil, ints(0), ints(0)), dict(1, nil, ints(0), ints(0, 0), ints(0, 0)), dict(1, nil, ints(1), ints(0, 0)), dict(0, nil, ints(0), ints(0, 0))}
	for _, det := range []int{0, -1, -2, impl.MaxEntry + 1, greatestInt, leastInt} {
		d := cloneDict(base)
		d.Det = det
		list = append(list, d)
	}
	for _, v := range []int{-1, 5, 6, 3, greatestInt, leastInt} {
		for i := range base.Basic {
			if base.Basic[i] != v {
				d := cloneDict(base)
				d.Basic[i] = v
				list = append(list, d)
			}
		}
		for j := range base.Free {
			d := cloneDict(base)
			d.Free[j] = v
			list = append(list, d)
		}
	}
	for i, line := range base.Grid {
		for j := range line {
			for _, v := range []int{-impl.MaxEntry - 1, impl.MaxEntry + 1, greatestInt, leastInt} {
				d := cloneDict(base)
				d.Grid[i][j] = v
				list = append(list, d)
			}
		}
		for _, other := range [][]int{nil, line[:1], line[:2], append(slices.Clone(line), 0)} {
			d := cloneDict(base)
			d.Grid[i] = other
			list = append(list, d)
		}
		d := cloneDict(base)
		d.Grid = slices.Delete(d.Grid, i, i+1)
		list = append(list, d)
	}
	for _, change := range []func(d *impl.Dict){
		func(d *impl.Dict) { d.Basic = d.Basic[:2] }, func(d *impl.Dict) { d.Basic = append(d.Basic, 5) }, func(d *impl.Dict) { d.Free = d.Free[:1] }, func(d *impl.Dict) { d.Free = append(d.Free, 5) },
		func(d *impl.Dict) { d.Grid = append(d.Grid, ints(1, 1, 1)) }, func(d *impl.Dict) { d.Grid = nil }, func(d *impl.Dict) { d.Free = nil }, func(d *impl.Dict) { d.Basic = nil },
	} {
		d := cloneDict(base)
		change(&d)
		list = append(list, d)
	}
	r := numbers()
	return append(list, randomDict(r, impl.MaxCover+1, 1, 1, 0, 1), randomDict(r, impl.MaxCover+1, impl.MaxVars, 1, 0, 1), randomDict(r, 3, impl.MaxVars+1, 1, 0, 1), randomDict(r, impl.MaxCover, impl.MaxVars+1, 1, 0, 1), randomDict(r, 200, 100, 1, 0, 1), randomDict(r, 2, 0, 1, 0, 1))
}

func TestLimitsOfDictionaries(t *testing.T) {
	if impl.MaxEntry != 2000000000 || impl.MaxCover != 24 {
		t.Error("the limits are wrong")
	}
	if impl.StepMoved != 0 || impl.StepBest != 1 || impl.StepNone != 2 || impl.StepWide != 3 || impl.StepInvalid != 4 {
		t.Error("the codes are wrong")
	}
}

func TestCoverRows(t *testing.T) {
	for _, p := range relaxProblems() {
		if got := impl.CoverRows(p); !slices.EqualFunc(got, wantCover(p), sameRow) {
			t.Errorf("CoverRows(%v) = %v", p, got)
		}
	}
	for _, p := range invalidProblems() {
		if got := impl.CoverRows(p); len(got) > 0 {
			t.Errorf("CoverRows(%v) = %v", p, got)
		}
	}
	for _, c := range []struct {
		p    impl.Problem
		want []impl.Row
	}{
		{problem(ints(1), ints(0)), []impl.Row{row(2, 0, -1)}},
		{problem(ints(1, 2, 3), ints(9, 0, 4)), []impl.Row{row(2, -9, -1, 0, 0), row(2, 0, 0, -1, 0), row(2, -4, 0, 0, -1)}},
		{problem(ints(1, 2), ints(3, 4), row(3, 5, 1, -2), row(1, -6, 0, 7), row(2, 8, -9, 3)), []impl.Row{row(2, 5, 1, -2), row(2, -5, -1, 2), row(2, 6, 0, -7), row(2, 8, -9, 3), row(2, -3, -1, 0), row(2, -4, 0, -1)}},
	} {
		if got := impl.CoverRows(c.p); !slices.EqualFunc(got, c.want, sameRow) {
			t.Errorf("CoverRows(%v) = %v", c.p, got)
		}
	}
	equalities := problem(ints(1, 1, 1, 1, 1), ints(9, 9, 9, 9, 9), slices.Repeat([]impl.Row{row(3, 99, 9, 9, 9, 9, 9)}, impl.MaxRows)...)
	if got := len(impl.CoverRows(equalities)); got != 17 {
		t.Errorf("%d rows of equalities", got)
	}
}

func TestValidDict(t *testing.T) {
	for _, d := range validDicts() {
		if !impl.ValidDict(d) {
			t.Errorf("ValidDict(%v) = false", d)
		}
	}
	for _, d := range invalidDicts() {
		if impl.ValidDict(d) {
			t.Errorf("ValidDict(%v) = true", d)
		}
	}
}

func TestStartDict(t *testing.T) {
	for _, p := range relaxProblems() {
		if got := impl.StartDict(p); !sameDict(got, wantStart(p)) {
			t.Errorf("StartDict(%v) = %v", p, got)
		}
	}
	for _, p := range invalidProblems() {
		if got := impl.StartDict(p); !noDict(got) {
			t.Errorf("StartDict(%v) = %v", p, got)
		}
	}
	p := problem(ints(1, 2), ints(3, 4), row(3, 5, 1, -2), row(1, -6, 0, 7))
	if got := impl.StartDict(p); !sameDict(got, dict(1, ints(2, 3, 4, 5, 6), ints(0, 1), ints(1, -2, -5), ints(-1, 2, 5), ints(0, -7, -6), ints(-1, 0, 3), ints(0, -1, 4), ints(1, 2, 0))) {
		t.Errorf("StartDict(%v) = %v", p, got)
	}
}

func TestDictPivot(t *testing.T) {
	made, failed, negative := 0, 0, 0
	for _, d := range validDicts() {
		for row := range d.Basic {
			for col := range d.Free {
				want, wantOk := wantPivot(d, row, col)
				if got, ok := impl.DictPivot(d, row, col); ok != wantOk || !sameDict(got, want) {
					t.Errorf("DictPivot(%v, %d, %d) = %v, %t, want %v, %t", d, row, col, got, ok, want, wantOk)
				}
				switch {
				case wantOk:
					made++
				case d.Grid[row][col] > 0:
					failed++
				default:
					negative++
				}
			}
		}
	}
	if made < 1000 || failed < 500 || negative < 1000 {
		t.Errorf("%d pivots are made, %d fail, and %d are not at a positive number", made, failed, negative)
	}
}

func TestPivotsAtLimits(t *testing.T) {
	const m = impl.MaxEntry
	one := func(det int, q int, c int, b int, a int) impl.Dict {
		return dict(det, ints(1), ints(0), ints(q, c), ints(b, a))
	}
	for _, c := range []struct {
		d    impl.Dict
		want impl.Dict
		ok   bool
	}{
		{one(1, 1, -1, 1, m-1), dict(1, ints(0), ints(1), ints(1, 1), ints(1, m)), true}, {one(1, 1, -1, 1, m), impl.Dict{}, false},
		{one(1, 1, 1, 1, 1-m), dict(1, ints(0), ints(1), ints(1, -1), ints(1, -m)), true}, {one(1, 1, 1, 1, -m), impl.Dict{}, false},
		{one(m, m, 0, m, m), dict(m, ints(0), ints(1), ints(m, 0), ints(m, m)), true}, {one(m, m, m, m, m), dict(m, ints(0), ints(1), ints(m, -m), ints(m, 0)), true},
		{one(m, m, m, -m, m), impl.Dict{}, false}, {one(m, m, -m, m, m), impl.Dict{}, false}, {one(1, m, -m, m, m), impl.Dict{}, false}, {one(1, m, m, m, -m), impl.Dict{}, false}, {one(1, m, m, m, m), dict(m, ints(0), ints(1), ints(1, -m), ints(m, 0)), true},
		{one(1, m, m, 1, 2), dict(m, ints(0), ints(1), ints(1, -m), ints(1, m)), true}, {one(1, m, m, 1, 3), impl.Dict{}, false}, {one(m, 1, -m, m, 0), dict(1, ints(0), ints(1), ints(m, m), ints(m, m)), true},
		// A division leaves a remainder, which may be negative.
		{one(2, 1, 1, 1, 3), dict(1, ints(0), ints(1), ints(2, -1), ints(1, 1)), true}, {one(2, 1, 1, 1, 2), impl.Dict{}, false}, {one(2, 1, 1, 1, 0), impl.Dict{}, false}, {one(3, 1, 1, 1, -1), impl.Dict{}, false}, {one(3, 1, 1, 1, -2), dict(1, ints(0), ints(1), ints(3, -1), ints(1, -1)), true},
		{one(m, 1, 0, 0, m-1), impl.Dict{}, false}, {one(m, 1, 0, 0, m), dict(1, ints(0), ints(1), ints(m, 0), ints(0, 1)), true},
		// The number is not positive.
		{one(1, 0, 1, 1, 1), impl.Dict{}, false}, {one(1, -1, 1, 1, 1), impl.Dict{}, false}, {one(1, -m, 1, 1, 1), impl.Dict{}, false},
		// A remainder in a row that is not the last one, and in a column that is not the last one.
		{dict(2, ints(2, 3), ints(1, 0), ints(1, 1, 1), ints(1, 3, 2), ints(1, 3, 3)), impl.Dict{}, false}, {dict(2, ints(2, 3), ints(1, 0), ints(1, 1, 1), ints(1, 2, 3), ints(1, 3, 3)), impl.Dict{}, false},
		{dict(2, ints(2, 3), ints(1, 0), ints(1, 1, 1), ints(1, 3, 5), ints(1, 3, -3)), dict(1, ints(1, 3), ints(2, 0), ints(2, -1, -1), ints(1, 1, 2), ints(1, 1, -2)), true},
	} {
		if got, ok := impl.DictPivot(c.d, 0, 0); ok != c.ok || !sameDict(got, c.want) {
			t.Errorf("DictPivot(%v, 0, 0) = %v, %t, want %v, %t", c.d, got, ok, c.want, c.ok)
		}
	}
}

func TestDictPivotWithInvalidArguments(t *testing.T) {
	check := func(d impl.Dict, row int, col int) {
		if got, ok := impl.DictPivot(d, row, col); ok || !noDict(got) {
			t.Errorf("DictPivot(%v, %d, %d) = %v, %t", d, row, col, got, ok)
		}
	}
	for _, d := range edgeDicts() {
		rows, cols := len(d.Basic), len(d.Free)
		for _, i := range []int{-1, rows, rows + 1, greatestInt, leastInt} {
			for _, j := range []int{-1, 0, cols - 1, cols, greatestInt, leastInt} {
				check(d, i, j)
			}
		}
		for _, j := range []int{-1, cols, cols + 1, greatestInt, leastInt} {
			check(d, 0, j)
			check(d, rows-1, j)
		}
	}
	for _, d := range invalidDicts() {
		for i := -1; i <= 2; i++ {
			for j := -1; j <= 2; j++ {
				check(d, i, j)
			}
		}
	}
}

func TestDictStep(t *testing.T) {
	counts := map[int]int{}
	for _, d := range validDicts() {
		want, wantCode := wantStep(d)
		if got, code := impl.DictStep(d); code != wantCode || !sameDict(got, want) {
			t.Errorf("DictStep(%v) = %v, %d, want %v, %d", d, got, code, want, wantCode)
		}
		counts[wantCode]++
	}
	for code := impl.StepMoved; code <= impl.StepWide; code++ {
		if counts[code] < 20 {
			t.Errorf("only %d steps have the code %d", counts[code], code)
		}
	}
	for _, d := range invalidDicts() {
		if got, code := impl.DictStep(d); code != impl.StepInvalid || !noDict(got) {
			t.Errorf("DictStep(%v) = %v, %d", d, got, code)
		}
	}
}

func TestStepsWithTies(t *testing.T) {
	const m = impl.MaxEntry
	for _, c := range []struct {
		d        impl.Dict
		row, col int
	}{
		// Of rows the smallest variable counts, not the first row or the least number.
		{dict(1, ints(4, 1, 2), ints(3, 0), ints(1, 2, -9), ints(3, 4, -1), ints(5, 6, -2), ints(7, 8, 0)), 1, 1},
		{dict(1, ints(1, 4, 2), ints(3, 0), ints(1, 2, 0), ints(3, 4, -1), ints(5, 6, -2), ints(7, 8, 0)), 2, 1},
		{dict(1, ints(4, 3, 1), ints(2, 0), ints(1, 2, -1), ints(3, 4, -1), ints(5, 6, 1), ints(7, 8, 0)), 1, 1},
		// Of columns with the same quotient the smallest variable counts.
		{dict(1, ints(0), ints(3, 1, 2), ints(1, 1, 1, -1), ints(5, 5, 5, 0)), 0, 1}, {dict(1, ints(0), ints(3, 1, 2), ints(2, 4, 6, -1), ints(1, 2, 3, 0)), 0, 1}, {dict(1, ints(0), ints(3, 1, 2), ints(2, 4, 6, -1), ints(1, 3, 3, 0)), 0, 2},
		{dict(1, ints(0), ints(1, 2, 3), ints(1, 1, 1, -1), ints(0, 0, 0, 0)), 0, 0}, {dict(1, ints(0), ints(1, 2, 3), ints(0, 1, 1, -1), ints(0, 0, 0, 0)), 0, 1}, {dict(1, ints(0), ints(1, 2, 3), ints(-1, 1, 1, -1), ints(0, 3, 2, 0)), 0, 2},
		{dict(1, ints(3), ints(2, 1, 0), ints(3, 3, 3, -1), ints(2, 1, 2, 0)), 0, 1}, {dict(1, ints(3), ints(2, 1, 0), ints(3, 3, 3, -1), ints(1, 1, 2, 0)), 0, 1}, {dict(1, ints(3), ints(2, 1, 0), ints(3, 3, 3, -1), ints(1, 1, 1, 0)), 0, 2},
		// The quotient counts, not the number: 1/3 < 1/2, and negative ones are less.
		{dict(1, ints(3), ints(2, 1, 0), ints(1, 3, 2, -1), ints(1, 1, 1, 0)), 0, 1}, {dict(1, ints(3), ints(2, 1, 0), ints(1, 3, 2, -1), ints(-1, -2, -1, 0)), 0, 0}, {dict(1, ints(3), ints(2, 1, 0), ints(1, 3, 2, -1), ints(0, 1, -1, 0)), 0, 2},
		// Quotients of large numbers, which differ by little.
		{dict(1, ints(2), ints(1, 0), ints(1, 1, -1), ints(m, m-1, 0)), 0, 1}, {dict(1, ints(2), ints(1, 0), ints(1, 1, -1), ints(m-1, m, 0)), 0, 0},
	} {
		want, ok := wantPivot(c.d, c.row, c.col)
		if got, code := impl.DictStep(c.d); !ok || code != impl.StepMoved || !sameDict(got, want) {
			t.Errorf("DictStep(%v) = %v, %d, want %v, %t", c.d, got, code, want, ok)
		}
	}
}

func TestStepsThatDoNotMove(t *testing.T) {
	const m = impl.MaxEntry
	for _, c := range []struct {
		d    impl.Dict
		code int
	}{
		{dict(1, nil, ints(0), ints(-1, -1)), impl.StepBest}, {dict(1, ints(1), ints(0), ints(-1, 0), ints(-1, -1)), impl.StepBest}, {dict(1, ints(1), ints(0), ints(1, 0), ints(1, -5)), impl.StepBest},
		{dict(1, ints(1), ints(0), ints(0, -1), ints(1, 0)), impl.StepNone}, {dict(1, ints(1), ints(0), ints(-1, -1), ints(1, 0)), impl.StepNone}, {dict(1, ints(2, 1), ints(0), ints(1, -1), ints(0, -1), ints(1, 0)), impl.StepNone},
		{dict(1, ints(1), ints(0), ints(1, -1), ints(1, m)), impl.StepWide}, {dict(2, ints(1), ints(0), ints(1, -1), ints(1, 0)), impl.StepWide}, {dict(1, ints(1), ints(0), ints(m, -m), ints(m, m)), impl.StepWide},
		// Another column would do, but it is not the one of the step.
		{dict(2, ints(2), ints(1, 0), ints(1, 2, -1), ints(1, 4, 0)), impl.StepWide},
	} {
		if got, code := impl.DictStep(c.d); code != c.code || !sameDict(got, c.d) {
			t.Errorf("DictStep(%v) = %v, %d", c.d, got, code)
		}
	}
}

func TestSolveRelax(t *testing.T) {
	counts, steps := map[int]int{}, 0
	for _, p := range relaxProblems() {
		path, wantCode := wantPath(p)
		if got, code := impl.SolveRelax(p); code != wantCode || !sameDict(got, path[len(path)-1]) {
			t.Errorf("SolveRelax(%v) = %v, %d, want %v, %d", p, got, code, path[len(path)-1], wantCode)
		}
		counts[wantCode]++
		steps = max(steps, len(path)-1)
	}
	if counts[impl.StepBest] < 50 || counts[impl.StepNone] < 40 || steps < 10 {
		t.Errorf("codes %v, and at most %d steps", counts, steps)
	}
	for _, p := range invalidProblems() {
		if got, code := impl.SolveRelax(p); code != impl.StepInvalid || !noDict(got) {
			t.Errorf("SolveRelax(%v) = %v, %d", p, got, code)
		}
	}
}

func TestSolvedProblems(t *testing.T) {
	for _, c := range []struct {
		p    impl.Problem
		want impl.Dict
		code int
	}{
		// Without rows the first dictionary is optimal.
		{problem(ints(0), ints(0)), dict(1, ints(1), ints(0), ints(-1, 0), ints(0, 0)), impl.StepBest},
		{problem(ints(3, 2), ints(4, 9)), dict(1, ints(2, 3), ints(0, 1), ints(-1, 0, 4), ints(0, -1, 9), ints(3, 2, 0)), impl.StepBest},
		{problem(ints(3, 2), ints(4, 4), row(2, 5, 2, 1)), dict(2, ints(0, 3, 4), ints(2, 1), ints(1, -1, 5), ints(-1, 1, 3), ints(0, -2, 8), ints(3, 1, 15)), impl.StepBest},
		// No row and no bound can be reached.
		{problem(ints(1), ints(3), row(2, 1, 0)), dict(1, ints(1, 2), ints(0), ints(0, -1), ints(-1, 3), ints(1, 0)), impl.StepNone},
		{problem(ints(1), ints(3), row(1, -1, 9)), dict(1, ints(1, 2), ints(0), ints(-9, -1), ints(-1, 3), ints(1, 0)), impl.StepNone},
		{problem(ints(1), ints(3), row(2, 7, 2)), dict(2, ints(0, 2), ints(1), ints(1, 7), ints(-1, -1), ints(1, 7)), impl.StepNone},
	} {
		if got, code := impl.SolveRelax(c.p); code != c.code || !sameDict(got, c.want) {
			t.Errorf("SolveRelax(%v) = %v, %d", c.p, got, code)
		}
	}
	for _, p := range wideProblems() {
		if d, code := impl.SolveRelax(p); code != impl.StepWide || !impl.ValidDict(d) || noDict(d) {
			t.Errorf("SolveRelax(%v) = %v, %d", p, d, code)
		}
	}
}

func TestP52CoverRowsSayTheSame(t *testing.T) {
	for _, p := range validProblems() {
		rows := impl.CoverRows(p)
		for _, x := range append(somePoints(p), rowPoints(len(p.Uppers))...) {
			all := true
			for _, r := range rows {
				all = all && impl.RowHolds(r, x)
			}
			if f := impl.Feasible(p, x); f != all {
				t.Errorf("%v is feasible for %v: %t, but for %v: %t", x, p, f, rows, all)
			}
		}
	}
}

func TestP53And55PivotingCanBeUndone(t *testing.T) {
	for _, d := range validDicts() {
		for row := range d.Basic {
			for col := range d.Free {
				e, ok := impl.DictPivot(d, row, col)
				if !ok {
					continue
				}
				if !impl.ValidDict(e) || e.Det != d.Grid[row][col] || e.Grid[row][col] != d.Det {
					t.Errorf("DictPivot(%v, %d, %d) = %v", d, row, col, e)
				}
				if back, ok := impl.DictPivot(e, row, col); !ok || !sameDict(back, d) {
					t.Errorf("DictPivot(%v, %d, %d) = %v, %t, want %v", e, row, col, back, ok, d)
				}
			}
		}
	}
}

func TestP54TheFirstDictionaryIsThatOfTheCosts(t *testing.T) {
	for _, p := range validProblems() {
		d, rows := impl.StartDict(p), impl.CoverRows(p)
		if !impl.ValidDict(d) || d.Det != 1 || len(d.Grid) != len(rows)+1 || !slices.Equal(d.Grid[len(rows)], append(slices.Clone(p.Costs), 0)) {
			t.Errorf("StartDict(%v) = %v", p, d)
			continue
		}
		for i, r := range rows {
			if !slices.Equal(d.Grid[i], append(slices.Clone(r.Coefs), -r.Bound)) {
				t.Errorf("row %d of StartDict(%v) is %v, but %v", i, p, d.Grid[i], r)
			}
		}
	}
}

func TestP56PivotingExchangesTwoVariables(t *testing.T) {
	for _, d := range validDicts() {
		for row := range d.Basic {
			for col := range d.Free {
				e, ok := impl.DictPivot(d, row, col)
				if ok && (!slices.Equal(e.Basic, changed(d.Basic, row, d.Free[col])) || !slices.Equal(e.Free, changed(d.Free, col, d.Basic[row]))) {
					t.Errorf("DictPivot(%v, %d, %d) = %v", d, row, col, e)
				}
			}
		}
	}
}

// TestPivotsKeepEquations checks at enough points that the new dictionary says the same as the old one.
func TestPivotsKeepEquations(t *testing.T) {
	for _, d := range validDicts() {
		for row := range d.Basic {
			for col := range d.Free {
				e, ok := impl.DictPivot(d, row, col)
				if !ok {
					continue
				}
				for unit := -1; unit < len(d.Free); unit++ {
					values := dictPoint(d, unit)
					for i, line := range e.Grid {
						sum := big.NewRat(int64(line[len(e.Free)]), 1)
						for j, v := range e.Free {
							sum.Add(sum, new(big.Rat).Mul(big.NewRat(int64(line[j]), 1), values[v]))
						}
						// The cost comes after all variables.
						left := values[len(values)-1]
						if i < len(e.Basic) {
							left = values[e.Basic[i]]
						}
						if sum.Cmp(new(big.Rat).Mul(left, big.NewRat(int64(e.Det), 1))) != 0 {
							t.Fatalf("DictPivot(%v, %d, %d) = %v, which is wrong at %v", d, row, col, e, values)
						}
					}
				}
			}
		}
	}
}

// dictPoint returns the values that a dictionary gives to all variables, and the cost, if one free variable or none is 1 and all others are 0.
func dictPoint(d impl.Dict, unit int) []*big.Rat {
	values := make([]*big.Rat, len(d.Basic)+len(d.Free)+1)
	for j, v := range d.Free {
		values[v] = new(big.Rat)
		if j == unit {
			values[v] = big.NewRat(1, 1)
		}
	}
	for i, line := range d.Grid {
		sum := line[len(d.Free)]
		if unit >= 0 {
			sum += line[unit]
		}
		at := len(values) - 1
		if i < len(d.Basic) {
			at = d.Basic[i]
		}
		values[at] = big.NewRat(int64(sum), int64(d.Det))
	}
	return values
}

func TestP57StepsNeverLowerTheValue(t *testing.T) {
	moved, grown := 0, 0
	check := func(d impl.Dict) {
		rows, last := len(d.Basic), len(d.Free)
		e, code := impl.DictStep(d)
		if slices.Min(d.Grid[rows][:last]) < 0 || code != impl.StepMoved {
			return
		}
		before, after := big.NewRat(int64(d.Grid[rows][last]), int64(d.Det)), big.NewRat(int64(e.Grid[rows][last]), int64(e.Det))
		if slices.Min(e.Grid[rows][:last]) < 0 || after.Cmp(before) < 0 {
			t.Errorf("DictStep(%v) = %v", d, e)
		}
		moved++
		grown += after.Cmp(before)
	}
	for _, d := range validDicts() {
		check(d)
	}
	for _, p := range relaxProblems() {
		path, _ := wantPath(p)
		for _, d := range path {
			check(d)
		}
	}
	if moved < 300 || grown < 200 {
		t.Errorf("%d steps move, and %d of them make the value greater", moved, grown)
	}
}

// endsAsCode reports whether a dictionary shows what the code of its step says.
func endsAsCode(d impl.Dict, code int) bool {
	best, none := true, false
	for _, line := range d.Grid[:len(d.Basic)] {
		if line[len(d.Free)] < 0 {
			best = false
			none = none || slices.Max(line[:len(d.Free)]) <= 0
		}
	}
	switch code {
	case impl.StepBest:
		return best
	case impl.StepNone:
		return none
	}
	return !best
}

func TestP58CodesSayWhatTheDictionaryShows(t *testing.T) {
	for _, d := range validDicts() {
		if _, code := impl.DictStep(d); !endsAsCode(d, code) {
			t.Errorf("DictStep(%v) has the code %d", d, code)
		}
	}
	for _, p := range relaxProblems() {
		if d, code := impl.SolveRelax(p); !endsAsCode(d, code) || code == impl.StepMoved || code == impl.StepInvalid {
			t.Errorf("SolveRelax(%v) = %v, %d", p, d, code)
		}
	}
}

func TestP59TheSimplexMethodEnds(t *testing.T) {
	for _, p := range relaxProblems() {
		d, code := impl.SolveRelax(p)
		if e, again := impl.DictStep(d); again != code || !sameDict(e, d) {
			t.Errorf("DictStep(%v) = %v, %d, not %d", d, e, again, code)
		}
	}
	for _, p := range invalidProblems() {
		d, code := impl.SolveRelax(p)
		if e, again := impl.DictStep(d); again != code || !noDict(d) || !noDict(e) {
			t.Errorf("DictStep(%v) = %v, %d, not %d", d, e, again, code)
		}
	}
}

func TestDictionariesAreNotChangedAndNotShared(t *testing.T) {
	for k, d := range append(validDicts(), invalidDicts()...) {
		arg := spareDict(d)
		row, col := k%(len(d.Basic)+1), k%(len(d.Free)+1)
		checkMemory(t, "a function of chapter 9", []any{arg}, func() []any {
			e, code := impl.DictStep(arg)
			f, ok := impl.DictPivot(arg, row, col)
			g, first := impl.DictPivot(arg, 0, 0)
			return []any{impl.ValidDict(arg), e, code, f, ok, g, first}
		})
	}
	for _, p := range append(relaxProblems(), invalidProblems()...) {
		arg := spareProblem(p)
		checkMemory(t, "a function of chapter 9", []any{arg}, func() []any {
			d, code := impl.SolveRelax(arg)
			return []any{impl.CoverRows(arg), impl.StartDict(arg), d, code}
		})
	}
}
