package tests

import (
	"math/rand"
	"slices"
	"testing"

	"loop.example/integerplanner/impl"
)

// plan has a number of stops and columns.
type plan struct {
	n    int
	list []impl.Column
}

func column(cost int, stops ...int) impl.Column {
	return impl.Column{Cost: cost, Stops: stops}
}

// columns returns several columns as a slice.
func columns(list ...impl.Column) []impl.Column {
	return list
}

// alone returns a column for each of some stops with the same cost.
func alone(cost int, stops ...int) []impl.Column {
	var list []impl.Column
	for _, k := range stops {
		list = append(list, column(cost, k))
	}
	return list
}

func sameColumn(a impl.Column, b impl.Column) bool {
	return a.Cost == b.Cost && slices.Equal(a.Stops, b.Stops)
}

// spareColumns returns a copy of columns with marks in the spare capacity of all slices.
func spareColumns(list []impl.Column) []impl.Column {
	long := make([]impl.Column, 0, len(list)+2)
	for _, c := range list {
		long = append(long, column(c.Cost, spare(c.Stops)...))
	}
	for i := len(long); i < cap(long); i++ {
		long[:cap(long)][i] = column(mark, mark)
	}
	return long
}

// withoutColumn returns a plan without one of its columns.
func withoutColumn(c plan, at int) plan {
	return plan{c.n, slices.Delete(slices.Clone(c.list), at, at+1)}
}

// randomPlan returns a plan with columns of chance, some of them several times.
func randomPlan(r *rand.Rand, n int, count int) plan {
	c := plan{n: n}
	sets := subsets(n)[1:]
	dearest := []int{0, 3, 12, impl.MaxTime}[r.Intn(4)]
	largest := []int{2, impl.MaxStops}[r.Intn(2)]
	for len(c.list) < count && n > 0 {
		if set := sets[r.Intn(len(sets))]; len(set) <= largest {
			c.list = append(c.list, column(r.Intn(dearest+1), set...))
		}
	}
	return c
}

// fullPlan returns a plan with a column for every set of n stops, all of the same cost.
func fullPlan(n int) plan {
	c := plan{n: n}
	for _, set := range subsets(n)[1:] {
		c.list = append(c.list, column(2, set...))
	}
	return c
}

// edgePlans returns plans at the limits, without stops, and without columns.
func edgePlans() []plan {
	list := []plan{{5, slices.Repeat(alone(impl.MaxTime, 0, 1, 2, 3, 4), 6)}, {5, append(slices.Repeat(alone(0, 4, 3, 2, 1, 0), 6), column(0, 0, 1, 2, 3, 4))}, {1, slices.Repeat(alone(7, 0), impl.MaxColumns)}, {5, slices.Repeat(alone(7, 4), impl.MaxColumns)}, {5, slices.Repeat(columns(column(impl.MaxTime, 0, 1, 2, 3, 4)), impl.MaxColumns)}}
	for n := range impl.MaxStops + 1 {
		list = append(list, plan{n, nil}, fullPlan(n))
	}
	return list
}

// validPlans returns plans of all sizes, among them those of fleets.
func validPlans() []plan {
	list := edgePlans()
	r := numbers()
	for n := range 400 {
		list = append(list, randomPlan(r, n%(impl.MaxStops+1), r.Intn(impl.MaxColumns+1)))
	}
	for _, f := range validFleets() {
		list = append(list, plan{len(f.Stops), impl.RouteColumns(f)})
	}
	return list
}

// invalidPlans returns plans with one fault each.
func invalidPlans() []plan {
	base := columns(column(1, 0), column(2, 0, 2), column(3, 0, 1, 2, 3, 4), column(4, 1), column(5, 3, 4))
	list := []plan{{-1, nil}, {impl.MaxStops + 1, nil}, {impl.MaxStops + 1, base}, {greatestInt, nil}, {greatestInt, base}, {leastInt, nil}, {leastInt, base}, {64, base}, {4, base}, {0, alone(1, 0)}, {0, columns(column(0))}, {1, columns(column(0))}, {1, slices.Repeat(alone(7, 0), impl.MaxColumns+1)}, {5, slices.Repeat(alone(7, 0, 1, 2, 3, 4), 200)}, {5, append(slices.Repeat(alone(7, 0), impl.MaxColumns), base...)}}
	for _, at := range []int{0, 2, 4} {
		for _, c := range []impl.Column{
			{}, column(1), column(-1, 0), column(impl.MaxTime+1, 0), column(greatestInt, 0), column(leastInt, 0), column(1, 5), column(1, -1), column(1, greatestInt), column(1, leastInt), column(1, 64), column(1, 0, 0), column(1, 1, 0), column(1, 0, 1, 1), column(1, 0, 5), column(1, -1, 0), column(1, 4, 3), column(1, 0, 1, 2, 3, 4, 5), column(1, 0, 1, 2, 3, 4, 4), column(1, make([]int, 100)...),
		} {
			wrong := slices.Clone(base)
			wrong[at] = c
			list = append(list, plan{5, wrong})
		}
	}
	return list
}

// partitions returns all choices of columns that have each stop once: the first stop without a column gets one.
func partitions(c plan) [][]int {
	var list [][]int
	var extend func(chosen []int)
	extend = func(chosen []int) {
		served := make([]bool, c.n)
		for _, i := range chosen {
			for _, k := range c.list[i].Stops {
				served[k] = true
			}
		}
		first := slices.Index(served, false)
		if first < 0 {
			list = append(list, slices.Sorted(slices.Values(chosen)))
			return
		}
		for i, other := range c.list {
			if slices.Contains(other.Stops, first) && !slices.ContainsFunc(other.Stops, func(k int) bool { return served[k] }) {
				extend(slices.Concat(chosen, ints(i)))
			}
		}
	}
	extend(nil)
	return list
}

// costsOf returns the costs of columns.
func costsOf(list []impl.Column) []int {
	var costs []int
	for _, c := range list {
		costs = append(costs, c.Cost)
	}
	return costs
}

// wantPartitionCost returns what PartitionCost returns for valid columns and numbers of some of them that ascend.
func wantPartitionCost(c plan, chosen []int) int {
	visits := make([]int, c.n)
	for _, i := range chosen {
		for _, k := range c.list[i].Stops {
			visits[k]++
		}
	}
	if !slices.Equal(visits, slices.Repeat(ints(1), c.n)) {
		return -1
	}
	return sumOf(costsOf(c.list), chosen)
}

// wantPartition returns what BestPartition returns for valid columns.
func wantPartition(c plan) ([]int, int) {
	var best []int
	least := -1
	costs := costsOf(c.list)
	for _, chosen := range partitions(c) {
		cost := sumOf(costs, chosen)
		if least < 0 || cost < least || cost == least && slices.Compare(chosen, best) < 0 {
			best, least = chosen, cost
		}
	}
	return best, least
}

// choicesOf returns choices of columns: many of few, and some of those that are partitions.
func choicesOf(c plan) [][]int {
	list := subsets(min(len(c.list), 8))
	whole := partitions(c)
	for i := 0; i < len(whole); i += 1 + len(whole)/50 {
		list = append(list, whole[i])
	}
	return list
}

func TestLimitsOfColumns(t *testing.T) {
	if impl.MaxColumns != 31 {
		t.Error("the limit is wrong")
	}
}

func TestRouteColumns(t *testing.T) {
	all, some := 0, 0
	for _, f := range validFleets() {
		n := len(f.Stops)
		sets := subsets(n)
		slices.SortFunc(sets, func(a []int, b []int) int { return sumOfMask(a) - sumOfMask(b) })
		var want []impl.Column
		for _, set := range sets[1:] {
			if _, cost := wantBestRoute(f, set); cost >= 0 {
				want = append(want, column(cost, set...))
			}
		}
		if got := impl.RouteColumns(f); !slices.EqualFunc(got, want, sameColumn) {
			t.Errorf("RouteColumns(%v) = %v, want %v", f, got, want)
		}
		switch len(want) {
		case 0:
		case power(2, n) - 1:
			all++
		default:
			some++
		}
	}
	if all < 20 || some < 50 {
		t.Errorf("%d fleets have columns for all sets, and %d for some of them", all, some)
	}
}

func TestColumnsOfRoutes(t *testing.T) {
	for _, c := range []struct {
		of   impl.Fleet
		want []impl.Column
	}{
		// Without stops there is no column, also not an empty one.
		{easyFleet(0, 0), nil}, {easyFleet(0, 50), nil}, {withCapacity(waiting(), 0), nil}, {easyFleet(1, 3), columns(column(6, 0))}, {easyFleet(2, 0), columns(column(0, 0), column(0, 1), column(0, 0, 1))},
		{waiting(), columns(column(10, 0), column(8, 1), column(12, 0, 1), column(12, 2), column(18, 0, 2), column(12, 1, 2))}, {withCapacity(waiting(), 3), columns(column(10, 0), column(8, 1))}, {withStop(easyFleet(3, 4), 1, stop(0, 0, 3, 0)), columns(column(8, 0), column(8, 2), column(12, 0, 2))}, {withTime(easyFleet(3, 4), 1, 2, 1), columns(column(8, 0), column(8, 1), column(9, 0, 1), column(8, 2), column(12, 0, 2), column(12, 1, 2), column(13, 0, 1, 2))},
	} {
		if got := impl.RouteColumns(c.of); !slices.EqualFunc(got, c.want, sameColumn) {
			t.Errorf("RouteColumns(%v) = %v, want %v", c.of, got, c.want)
		}
	}
	// Only all five stops together take too long.
	if got := impl.RouteColumns(easyFleet(5, 50)); len(got) != 30 {
		t.Errorf("RouteColumns has %d columns", len(got))
	}
	if got := impl.RouteColumns(easyFleet(5, 40)); len(got) != 31 {
		t.Errorf("RouteColumns has %d columns", len(got))
	}
}

func TestPartitionCost(t *testing.T) {
	whole, not := 0, 0
	for _, c := range validPlans() {
		for _, chosen := range choicesOf(c) {
			want := wantPartitionCost(c, chosen)
			if got := impl.PartitionCost(c.n, c.list, chosen); got != want {
				t.Errorf("PartitionCost(%v, %v) = %d, want %d", c, chosen, got, want)
			}
			if want < 0 {
				not++
			} else {
				whole++
			}
		}
	}
	if whole < 1000 || not < 1000 {
		t.Errorf("%d choices are partitions, and %d are not", whole, not)
	}
}

func TestCostsOfPartitions(t *testing.T) {
	three := columns(column(1, 0), column(20, 1), column(300, 2), column(4000, 0, 1), column(5, 0, 1, 2), column(0, 2))
	for _, c := range []struct {
		of     plan
		chosen []int
		want   int
	}{
		{plan{0, nil}, nil, 0}, {plan{0, nil}, ints(), 0}, {plan{0, nil}, ints(0), -1}, {plan{1, nil}, nil, -1}, {plan{3, three}, nil, -1}, {plan{3, three}, ints(0, 1, 2), 321}, {plan{3, three}, ints(2, 3), 4300}, {plan{3, three}, ints(4), 5}, {plan{3, three}, ints(0, 1, 5), 21}, {plan{3, three}, ints(3, 5), 4000},
		// A stop is missing, or served twice.
		{plan{3, three}, ints(0, 1), -1}, {plan{3, three}, ints(1, 2), -1}, {plan{3, three}, ints(3), -1}, {plan{3, three}, ints(0, 2, 3), -1}, {plan{3, three}, ints(0, 1, 2, 5), -1}, {plan{3, three}, ints(0, 4), -1}, {plan{3, three}, ints(4, 5), -1}, {plan{4, three}, ints(4), -1}, {plan{4, three}, ints(0, 1, 2), -1},
		// The numbers do not ascend, or are none of columns.
		{plan{3, three}, ints(3, 2), -1}, {plan{3, three}, ints(1, 0, 2), -1}, {plan{3, three}, ints(4, 4), -1}, {plan{3, three}, ints(4, 6), -1}, {plan{3, three}, ints(6), -1}, {plan{3, three}, ints(-1, 4), -1}, {plan{3, three}, ints(-1), -1},
		{plan{5, alone(impl.MaxTime, 0, 1, 2, 3, 4)}, ints(0, 1, 2, 3, 4), 5 * impl.MaxTime}, {plan{5, slices.Repeat(columns(column(9, 0, 1, 2, 3, 4)), 31)}, ints(30), 9}, {plan{5, slices.Repeat(columns(column(9, 0, 1, 2, 3, 4)), 31)}, ints(31), -1}, {plan{5, slices.Repeat(columns(column(9, 0, 1, 2, 3, 4)), 32)}, ints(30), -1},
	} {
		if got := impl.PartitionCost(c.of.n, c.of.list, c.chosen); got != c.want {
			t.Errorf("PartitionCost(%v, %v) = %d, want %d", c.of, c.chosen, got, c.want)
		}
	}
}

func TestBestPartition(t *testing.T) {
	several, none := 0, 0
	for _, c := range validPlans() {
		want, cost := wantPartition(c)
		if got, n := impl.BestPartition(c.n, c.list); n != cost || !slices.Equal(got, want) {
			t.Errorf("BestPartition(%v) = %v, %d, want %v, %d", c, got, n, want, cost)
		}
		if len(want) > 1 {
			several++
		}
		if cost < 0 {
			none++
		}
	}
	if several < 100 || none < 30 {
		t.Errorf("%d best partitions have several columns, and %d do not exist", several, none)
	}
}

func TestBestPartitions(t *testing.T) {
	pairs := columns(column(5, 0, 1), column(5, 1, 2), column(5, 0, 2), column(5, 0), column(5, 1), column(5, 2))
	for _, c := range []struct {
		of   plan
		want []int
		cost int
	}{
		{plan{0, nil}, nil, 0}, {plan{1, nil}, nil, -1}, {plan{5, nil}, nil, -1}, {plan{1, alone(0, 0)}, ints(0), 0}, {plan{1, alone(9999, 0)}, ints(0), 9999}, {plan{2, alone(1, 0)}, nil, -1}, {plan{2, alone(1, 1)}, nil, -1}, {plan{3, columns(column(1, 0, 1), column(1, 1, 2), column(1, 0, 2))}, nil, -1},
		{plan{3, columns(column(10, 0), column(8, 1), column(12, 0, 1), column(12, 2), column(18, 0, 2), column(12, 1, 2))}, ints(0, 5), 22}, {plan{5, alone(9999, 4, 3, 2, 1, 0)}, ints(0, 1, 2, 3, 4), 49995},
		// Of the same cost the lexicographically smallest choice, also if it has more columns.
		{plan{1, alone(3, 0, 0, 0)}, ints(0), 3}, {plan{1, columns(column(4, 0), column(3, 0), column(3, 0))}, ints(1), 3}, {plan{3, pairs}, ints(0, 5), 10}, {plan{3, pairs[1:]}, ints(0, 2), 10}, {plan{3, pairs[2:]}, ints(0, 2), 10}, {plan{3, pairs[3:]}, ints(0, 1, 2), 15}, {plan{2, columns(column(0, 1), column(2, 0, 1), column(2, 0))}, ints(0, 2), 2}, {plan{2, columns(column(2, 0, 1), column(1, 0), column(1, 1))}, ints(0), 2}, {plan{2, columns(column(1, 0), column(2, 0, 1), column(1, 1))}, ints(0, 2), 2}, {plan{2, columns(column(1, 1), column(1, 0), column(1, 1), column(1, 0))}, ints(0, 1), 2}, {plan{2, columns(column(2, 0), column(1, 0), column(1, 1), column(0, 1))}, ints(1, 3), 1}, {plan{4, columns(column(3, 2, 3), column(3, 0, 1), column(3, 1, 2), column(3, 0, 3))}, ints(0, 1), 6}, {plan{4, columns(column(3, 0, 3), column(3, 2, 3), column(3, 0, 1), column(3, 1, 2))}, ints(0, 3), 6}, {plan{4, columns(column(4, 0, 3), column(3, 2, 3), column(3, 0, 1), column(3, 1, 2))}, ints(1, 2), 6},
		// Columns without cost are not taken in addition, because they have stops.
		{plan{2, columns(column(0, 0), column(0, 1), column(0, 0, 1))}, ints(0, 1), 0}, {plan{2, columns(column(0, 0, 1), column(0, 0), column(0, 1))}, ints(0), 0},
		{plan{5, slices.Repeat(columns(column(9, 0, 1, 2, 3, 4)), 31)}, ints(0), 9}, {plan{5, slices.Repeat(columns(column(9, 0, 1, 2, 3, 4)), 32)}, nil, -1}, {plan{5, append(slices.Repeat(alone(2, 0), 30), column(9, 0, 1, 2, 3, 4))}, ints(30), 9}, {plan{5, append(slices.Repeat(alone(2, 0), 30), column(9, 1, 2, 3, 4))}, ints(0, 30), 11},
	} {
		if got, n := impl.BestPartition(c.of.n, c.of.list); n != c.cost || !slices.Equal(got, c.want) {
			t.Errorf("BestPartition(%v) = %v, %d, want %v, %d", c.of, got, n, c.want, c.cost)
		}
	}
}

// wantReducedCosts returns what ReducedCosts returns for valid columns and one dual for each stop.
func wantReducedCosts(c plan, duals []int) []int {
	costs := costsOf(c.list)
	for i, other := range c.list {
		for _, k := range other.Stops {
			costs[i] -= duals[k]
		}
	}
	return costs
}

func TestReducedCostsAndPartitionBound(t *testing.T) {
	r := numbers()
	proved, not := 0, 0
	for _, c := range validPlans() {
		for _, duals := range prizeLists(r, c.n) {
			want := wantReducedCosts(c, duals)
			if got := impl.ReducedCosts(c.n, c.list, duals); !slices.Equal(got, want) {
				t.Errorf("ReducedCosts(%v, %v) = %v, want %v", c, duals, got, want)
			}
			bound, ok := 0, len(want) == 0 || slices.Min(want) >= 0
			if ok {
				bound = dot(duals, slices.Repeat(ints(1), c.n))
				proved++
			} else {
				not++
			}
			if got, done := impl.PartitionBound(c.n, c.list, duals); got != bound || done != ok {
				t.Errorf("PartitionBound(%v, %v) = %d, %t, want %d, %t", c, duals, got, done, bound, ok)
			}
		}
	}
	if proved < 1000 || not < 1000 {
		t.Errorf("%d duals prove a bound, and %d do not", proved, not)
	}
}

func TestReducedColumns(t *testing.T) {
	three := columns(column(10, 0), column(20, 1), column(30, 0, 2), column(0, 1, 2))
	for _, c := range []struct {
		of    plan
		duals []int
		want  []int
		bound int
		ok    bool
	}{
		// Without columns nothing is negative.
		{plan{0, nil}, nil, nil, 0, true}, {plan{3, nil}, ints(1, 2, 3), nil, 6, true}, {plan{3, nil}, ints(-1, -2, -3), nil, -6, true}, {plan{5, nil}, ints(999, 999, 999, 999, 999), nil, 4995, true},
		{plan{3, three}, ints(0, 0, 0), ints(10, 20, 30, 0), 0, true}, {plan{3, three}, ints(10, 20, -20), ints(0, 0, 40, 0), 10, true}, {plan{3, three}, ints(-999, -999, -999), ints(1009, 1019, 2028, 1998), -2997, true}, {plan{3, three}, ints(999, 999, -999), ints(-989, -979, 30, 0), 0, false},
		// One number is just 0, or 1 less.
		{plan{3, three}, ints(10, 0, 0), ints(0, 20, 20, 0), 10, true}, {plan{3, three}, ints(11, 0, 0), ints(-1, 20, 19, 0), 0, false}, {plan{3, three}, ints(0, 20, -20), ints(10, 0, 50, 0), 0, true}, {plan{3, three}, ints(0, 21, -21), ints(10, -1, 51, 0), 0, false}, {plan{3, three}, ints(10, -20, 20), ints(0, 40, 0, 0), 10, true}, {plan{3, three}, ints(10, -21, 21), ints(0, 41, -1, 0), 0, false}, {plan{3, three}, ints(0, 0, 1), ints(10, 20, 29, -1), 0, false},
		{plan{5, columns(column(4995, 0, 1, 2, 3, 4))}, ints(999, 999, 999, 999, 999), ints(0), 4995, true}, {plan{5, columns(column(4994, 0, 1, 2, 3, 4))}, ints(999, 999, 999, 999, 999), ints(-1), 0, false}, {plan{1, alone(9999, 0)}, ints(-999), ints(10998), -999, true},
		{plan{1, alone(9999, 0)}, ints(-1000), nil, 0, false}, {plan{1, alone(9999, 0)}, ints(1000), nil, 0, false}, {plan{1, alone(9999, 0)}, nil, nil, 0, false}, {plan{0, nil}, ints(0), nil, 0, false}, {plan{1, nil}, ints(0, 0), nil, 0, false}, {plan{1, nil}, nil, nil, 0, false}, {plan{1, nil}, ints(1000), nil, 0, false},
	} {
		if got := impl.ReducedCosts(c.of.n, c.of.list, c.duals); !slices.Equal(got, c.want) {
			t.Errorf("ReducedCosts(%v, %v) = %v, want %v", c.of, c.duals, got, c.want)
		}
		if got, ok := impl.PartitionBound(c.of.n, c.of.list, c.duals); got != c.bound || ok != c.ok {
			t.Errorf("PartitionBound(%v, %v) = %d, %t, want %d, %t", c.of, c.duals, got, ok, c.bound, c.ok)
		}
	}
}

func TestColumnsWithInvalidArguments(t *testing.T) {
	checkDuals := func(c plan, duals []int) {
		if got := impl.ReducedCosts(c.n, c.list, duals); len(got) != 0 {
			t.Errorf("ReducedCosts(%v, %v) = %v", c, duals, got)
		}
		if got, ok := impl.PartitionBound(c.n, c.list, duals); ok || got != 0 {
			t.Errorf("PartitionBound(%v, %v) = %d, %t", c, duals, got, ok)
		}
	}
	for _, c := range invalidPlans() {
		for _, chosen := range [][]int{nil, {0}, {2}, {0, 3}, {100}} {
			if got := impl.PartitionCost(c.n, c.list, chosen); got != -1 {
				t.Errorf("PartitionCost(%v, %v) = %d", c, chosen, got)
			}
		}
		if got, n := impl.BestPartition(c.n, c.list); n != -1 || len(got) != 0 {
			t.Errorf("BestPartition(%v) = %v, %d", c, got, n)
		}
		checkDuals(c, nil)
		checkDuals(c, make([]int, max(0, min(c.n, 100))))
	}
	for n := range impl.MaxStops + 1 {
		all := fullPlan(n)
		for _, chosen := range wrongSets(len(all.list)) {
			if got := impl.PartitionCost(n, all.list, chosen); got != -1 {
				t.Errorf("PartitionCost(%v, %v) = %d", all, chosen, got)
			}
		}
		for _, duals := range invalidPrizes(n) {
			checkDuals(all, duals)
			checkDuals(plan{n, nil}, duals)
		}
	}
	for _, f := range invalidFleets() {
		if got := impl.RouteColumns(f); len(got) != 0 {
			t.Errorf("RouteColumns(%v) = %v", f, got)
		}
	}
}

func TestP106ColumnsAreBestRoutes(t *testing.T) {
	for _, f := range validFleets() {
		list := impl.RouteColumns(f)
		last := 0
		for _, c := range list {
			route, cost := impl.BestRoute(f, c.Stops)
			if cost != c.Cost || cost < 0 || len(route) == 0 || sumOfMask(c.Stops) <= last {
				t.Errorf("RouteColumns(%v) = %v, but BestRoute(%v) = %v, %d", f, list, c.Stops, route, cost)
			}
			last = sumOfMask(c.Stops)
		}
		possible := 0
		for _, set := range subsets(len(f.Stops))[1:] {
			if _, cost := impl.BestRoute(f, set); cost >= 0 {
				possible++
			}
		}
		if possible != len(list) {
			t.Errorf("RouteColumns(%v) = %v, but %d sets have a route", f, list, possible)
		}
	}
}

func TestP107NoPartitionIsCheaperThanTheBestOne(t *testing.T) {
	checked := 0
	for _, c := range validPlans() {
		_, best := impl.BestPartition(c.n, c.list)
		for _, chosen := range choicesOf(c) {
			cost := impl.PartitionCost(c.n, c.list, chosen)
			if cost >= 0 && !within(best, 0, cost) {
				t.Errorf("BestPartition(%v) costs %d, but %v cost %d", c, best, chosen, cost)
			}
			if best >= 0 && cost > best {
				checked++
			}
		}
	}
	if checked < 1000 {
		t.Errorf("only %d choices are dearer", checked)
	}
}

func TestP108TheBestPartitionIsOne(t *testing.T) {
	found := 0
	for _, c := range validPlans() {
		chosen, best := impl.BestPartition(c.n, c.list)
		if best < 0 {
			continue
		}
		found++
		if cost := impl.PartitionCost(c.n, c.list, chosen); cost != best {
			t.Errorf("BestPartition(%v) = %v, %d, but PartitionCost is %d", c, chosen, best, cost)
		}
	}
	if found < 100 {
		t.Errorf("only %d plans have a partition", found)
	}
}

func TestP109MoreColumnsAreNotWorse(t *testing.T) {
	dearer, lost := 0, 0
	for _, c := range validPlans() {
		_, best := impl.BestPartition(c.n, c.list)
		for i := range c.list {
			fewer := withoutColumn(c, i)
			_, cost := impl.BestPartition(c.n, fewer.list)
			switch {
			case cost >= 0 && !within(best, 0, cost):
				t.Errorf("BestPartition(%v) costs %d, but %d without the column %d", c, best, cost, i)
			case cost < 0 && best >= 0:
				lost++
			case cost > best:
				dearer++
			}
		}
	}
	if dearer < 100 || lost < 30 {
		t.Errorf("%d plans are dearer without a column, and %d have no partition then", dearer, lost)
	}
}

func TestP110DualsAreSubtracted(t *testing.T) {
	r := numbers()
	for _, c := range validPlans() {
		if got := impl.ReducedCosts(c.n, c.list, make([]int, c.n)); !slices.Equal(got, costsOf(c.list)) {
			t.Errorf("ReducedCosts(%v) = %v with all duals 0", c, got)
		}
		for _, duals := range prizeLists(r, c.n) {
			costs := impl.ReducedCosts(c.n, c.list, duals)
			sum := dot(duals, slices.Repeat(ints(1), c.n))
			for _, chosen := range choicesOf(c) {
				if cost := impl.PartitionCost(c.n, c.list, chosen); cost >= 0 && sumOf(costs, chosen) != cost-sum {
					t.Errorf("ReducedCosts(%v, %v) = %v, but %v cost %d", c, duals, costs, chosen, cost)
				}
			}
		}
	}
}

func TestP111DualsAreLowerBounds(t *testing.T) {
	r := numbers()
	proved, equal := 0, 0
	for _, c := range validPlans() {
		_, best := impl.BestPartition(c.n, c.list)
		lists := prizeLists(r, c.n)
		for range 20 {
			lists = append(lists, randomNumbers(r, c.n, -1, 6))
		}
		for _, duals := range lists {
			bound, ok := impl.PartitionBound(c.n, c.list, duals)
			if !ok || best < 0 {
				continue
			}
			proved++
			if bound > best {
				t.Errorf("PartitionBound(%v, %v) = %d, but BestPartition costs %d", c, duals, bound, best)
			}
			if bound == best {
				equal++
			}
		}
	}
	if proved < 500 || equal < 20 {
		t.Errorf("%d duals prove a bound, %d of them the cost of the best partition", proved, equal)
	}
}

func TestColumnsAreNotChangedAndNotShared(t *testing.T) {
	for _, c := range append(validPlans(), invalidPlans()...) {
		chosen, _ := impl.BestPartition(c.n, c.list)
		list, picked, duals := spareColumns(c.list), spare(chosen), spare(slices.Repeat(ints(3), max(0, min(c.n, 9))))
		checkMemory(t, "a function of chapter 17", []any{list, picked, duals}, func() []any {
			best, cost := impl.BestPartition(c.n, list)
			bound, ok := impl.PartitionBound(c.n, list, duals)
			return []any{best, cost, impl.PartitionCost(c.n, list, picked), impl.ReducedCosts(c.n, list, duals), bound, ok}
		})
	}
	for _, f := range append(validFleets(), invalidFleets()...) {
		g := spareFleet(f)
		checkMemory(t, "RouteColumns", []any{g}, func() []any { return []any{impl.RouteColumns(g)} })
	}
}
