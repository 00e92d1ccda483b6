package tests

import (
	"math/rand"
	"slices"
	"testing"

	"loop.example/integerplanner/impl"
)

func lots(setup int, hold int, demands ...int) impl.Lots {
	return impl.Lots{Demands: demands, Setup: setup, Hold: hold}
}

// withDemand returns lots with another demand in a period.
func withDemand(l impl.Lots, at int, demand int) impl.Lots {
	return lots(l.Setup, l.Hold, changed(l.Demands, at, demand)...)
}

// edgeLots returns lots at the limits, without periods, and without demands in some or all of them.
func edgeLots() []impl.Lots {
	list := []impl.Lots{
		{}, lots(99, 99), lots(7, 1, 0), lots(7, 1, 1), lots(0, 0, 99), lots(99, 99, slices.Repeat(ints(99), 8)...), lots(0, 99, slices.Repeat(ints(99), 8)...), lots(99, 0, slices.Repeat(ints(99), 8)...), lots(0, 0, slices.Repeat(ints(99), 8)...), lots(99, 1, slices.Repeat(ints(99), 8)...),
		lots(10, 1, 3, 0, 4, 5), lots(99, 1, 0, 0, 0, 0, 0, 0, 0, 99), lots(0, 1, 0, 0, 0, 0, 0, 0, 0, 99), lots(99, 0, 0, 0, 0, 0, 0, 0, 0, 1), lots(9, 1, 99, 0, 0, 0, 0, 0, 0, 0), lots(5, 5, 1, 1, 1, 1, 1, 1, 1, 1), lots(4, 1, 0, 4, 0, 0, 2, 2, 0, 0),
	}
	for n := range impl.MaxPeriods + 1 {
		list = append(list, lots(3, 2, make([]int, n)...), lots(0, 0, make([]int, n)...), lots(2, 1, slices.Repeat(ints(1), n)...))
	}
	return list
}

// validLots returns lots with all numbers of periods.
func validLots() []impl.Lots {
	list := edgeLots()
	r := numbers()
	for n := range 450 {
		dearest := []int{0, 3, 12, impl.MaxCost}[r.Intn(4)]
		l := lots(r.Intn(dearest+1), r.Intn([]int{0, 2, impl.MaxCost}[r.Intn(3)]+1), make([]int, n%(impl.MaxPeriods+1))...)
		most := []int{1, 3, 12, impl.MaxBound}[r.Intn(4)]
		for k := range l.Demands {
			if r.Intn(3) > 0 {
				l.Demands[k] = r.Intn(most + 1)
			}
		}
		list = append(list, l)
	}
	return list
}

// invalidLots returns lots with one fault each.
func invalidLots() []impl.Lots {
	list := []impl.Lots{lots(1, 1, slices.Repeat(ints(1), impl.MaxPeriods+1)...), lots(1, 1, make([]int, impl.MaxPeriods+1)...), lots(0, 0, make([]int, 1000)...)}
	for _, v := range []int{-1, impl.MaxCost + 1, greatestInt, leastInt} {
		list = append(list, lots(v, 1), lots(1, v), lots(v, 1, 3, 0, 4), lots(1, v, 3, 0, 4), lots(v, 0, 0), lots(0, v, 0))
	}
	for _, v := range []int{-1, impl.MaxBound + 1, greatestInt, leastInt} {
		list = append(list, lots(1, 1, v), lots(0, 0, v, 3, 4), lots(1, 1, 3, v, 4), lots(1, 1, 3, 4, v), lots(2, 3, append(make([]int, 7), v)...))
	}
	return list
}

// plansFor returns plans of valid lots: those that follow demands, others, and some without enough stock.
func plansFor(r *rand.Rand, l impl.Lots) [][]int {
	n := len(l.Demands)
	list := [][]int{slices.Clone(l.Demands), make([]int, n), slices.Repeat(ints(impl.MaxAmount), n)}
	sets := subsets(n)
	for range 12 {
		if plan, ok := wantLotPlan(l, sets[r.Intn(len(sets))]); ok {
			list = append(list, plan)
		}
		list = append(list, randomNumbers(r, n, 0, []int{1, 4, 30, impl.MaxAmount}[r.Intn(4)]))
	}
	for _, plan := range slices.Clone(list) {
		for k := range plan {
			if plan[k] > 0 {
				list = append(list, changed(plan, k, plan[k]-1))
			}
			if plan[k] < impl.MaxAmount {
				list = append(list, changed(plan, k, plan[k]+1))
			}
		}
	}
	return list
}

// wrongPlans returns lists that are not one valid amount for each of n periods.
func wrongPlans(n int) [][]int {
	list := [][]int{slices.Repeat(ints(impl.MaxAmount), n+1), make([]int, n+1), make([]int, 1000)}
	if n > 0 {
		list = append(list, slices.Repeat(ints(impl.MaxAmount), n-1))
	}
	for at := range n {
		for _, v := range []int{-1, impl.MaxAmount + 1, greatestInt, leastInt} {
			list = append(list, changed(slices.Repeat(ints(impl.MaxAmount), n), at, v))
		}
	}
	return list
}

// total returns the sum of numbers.
func total(list []int) int {
	sum := 0
	for _, a := range list {
		sum += a
	}
	return sum
}

// wantLevels returns what StockLevels returns for valid lots and one valid amount for each period, and whether no stock is negative.
func wantLevels(l impl.Lots, plan []int) ([]int, bool) {
	var levels []int
	for k := range plan {
		stock := total(plan[:k+1]) - total(l.Demands[:k+1])
		if stock < 0 {
			return nil, false
		}
		levels = append(levels, stock)
	}
	return levels, true
}

// wantPlanCost returns what PlanCost returns for valid lots and one valid amount for each period.
func wantPlanCost(l impl.Lots, plan []int) int {
	levels, ok := wantLevels(l, plan)
	if !ok {
		return -1
	}
	idle := 0
	for _, amount := range plan {
		if amount == 0 {
			idle++
		}
	}
	return total(levels)*l.Hold + (len(plan)-idle)*l.Setup
}

// wantLotPlan returns what LotPlan returns for valid lots and periods that ascend, and whether no demand is ahead of them.
func wantLotPlan(l impl.Lots, periods []int) ([]int, bool) {
	plan := make([]int, len(l.Demands))
	// Behind the last period there is the end.
	ends := append(slices.Clone(periods), len(l.Demands))
	if total(l.Demands[:ends[0]]) > 0 {
		return nil, false
	}
	for i, k := range periods {
		plan[k] = total(l.Demands[k:ends[i+1]])
	}
	return plan, true
}

// wantBestLots returns what BestLots returns for valid lots.
func wantBestLots(l impl.Lots) ([]int, int) {
	var best []int
	least := -1
	sets := subsets(len(l.Demands))
	slices.SortFunc(sets, slices.Compare)
	for _, periods := range sets {
		plan, ok := wantLotPlan(l, periods)
		if !ok {
			continue
		}
		if cost := wantPlanCost(l, plan); least < 0 || cost < least {
			best, least = periods, cost
		}
	}
	return best, least
}

func TestLimitsOfLots(t *testing.T) {
	if impl.MaxPeriods != 8 || impl.MaxAmount != 999 {
		t.Error("a limit is wrong")
	}
}

func TestStockLevelsAndPlanCost(t *testing.T) {
	r := numbers()
	enough, not := 0, 0
	for _, l := range validLots() {
		for _, plan := range plansFor(r, l) {
			want, ok := wantLevels(l, plan)
			if got := impl.StockLevels(l, plan); !slices.Equal(got, want) {
				t.Errorf("StockLevels(%v, %v) = %v, want %v", l, plan, got, want)
			}
			if got, cost := impl.PlanCost(l, plan), wantPlanCost(l, plan); got != cost {
				t.Errorf("PlanCost(%v, %v) = %d, want %d", l, plan, got, cost)
			}
			if ok {
				enough++
			} else {
				not++
			}
		}
	}
	if enough < 1000 || not < 1000 {
		t.Errorf("%d plans make enough, and %d do not", enough, not)
	}
}

func TestPlans(t *testing.T) {
	l := lots(10, 1, 3, 0, 4, 5)
	full := slices.Repeat(ints(999), 8)
	for _, c := range []struct {
		of   impl.Lots
		plan []int
		want []int
		cost int
	}{
		// Without periods there is nothing to pay.
		{lots(0, 0), nil, nil, 0}, {lots(99, 99), nil, nil, 0}, {lots(99, 99), ints(), nil, 0}, {lots(99, 99), ints(0), nil, -1}, {lots(1, 1, 0), nil, nil, -1},
		{l, ints(3, 0, 9, 0), ints(0, 0, 5, 0), 25}, {l, ints(3, 0, 4, 5), ints(0, 0, 0, 0), 30}, {l, ints(12, 0, 0, 0), ints(9, 9, 5, 0), 33}, {l, ints(3, 4, 0, 5), ints(0, 4, 0, 0), 34}, {l, ints(4, 0, 9, 0), ints(1, 1, 6, 1), 29}, {l, ints(3, 0, 9, 7), ints(0, 0, 5, 7), 42}, {l, ints(3, 1, 3, 5), ints(0, 1, 0, 0), 41},
		// One unit is missing in the first, in a middle and in the last period.
		{l, ints(2, 1, 9, 0), nil, -1}, {l, ints(3, 0, 3, 6), nil, -1}, {l, ints(3, 0, 9, -1), nil, -1}, {l, ints(3, 0, 8, 0), nil, -1}, {l, ints(2, 999, 999, 999), nil, -1}, {l, ints(0, 0, 0, 0), nil, -1},
		// Periods without demand need no setup, also the first ones, but may have one.
		{lots(7, 2, 0, 0, 0), ints(0, 0, 0), ints(0, 0, 0), 0}, {lots(7, 2, 0, 0, 0), ints(0, 1, 0), ints(0, 1, 1), 11}, {lots(7, 2, 0, 0, 5), ints(0, 0, 5), ints(0, 0, 0), 7}, {lots(7, 2, 0, 0, 5), ints(5, 0, 0), ints(5, 5, 0), 27}, {lots(7, 2, 0, 0, 5), ints(1, 1, 3), ints(1, 2, 0), 27}, {lots(0, 2, 0, 0, 5), ints(1, 1, 3), ints(1, 2, 0), 6}, {lots(7, 0, 0, 0, 5), ints(1, 1, 3), ints(1, 2, 0), 21}, {lots(0, 0, 0, 0, 5), ints(1, 1, 3), ints(1, 2, 0), 0},
		// The limits, and one more.
		{lots(99, 99, make([]int, 8)...), full, ints(999, 1998, 2997, 3996, 4995, 5994, 6993, 7992), 99*35964 + 8*99}, {lots(99, 99, slices.Repeat(ints(99), 8)...), full, ints(900, 1800, 2700, 3600, 4500, 5400, 6300, 7200), 99*32400 + 8*99}, {lots(1, 1, make([]int, 9)...), slices.Repeat(ints(1), 9), nil, -1}, {lots(1, 1, 0), ints(999), ints(999), 1000}, {lots(1, 1, 0), ints(1000), nil, -1}, {lots(1, 1, 0, 0), ints(999, 1000), nil, -1}, {lots(1, 1, 0, 0), ints(1, -1), nil, -1}, {lots(1, 1, 99), ints(99), ints(0), 1}, {lots(1, 1, 100), ints(100), nil, -1}, {lots(100, 1, 9), ints(9), nil, -1}, {lots(1, 100, 9), ints(9), nil, -1}, {lots(99, 99, 9), ints(9), ints(0), 99}, {lots(99, 99, 9), ints(10), ints(1), 198},
		{l, ints(3, 0, 9), nil, -1}, {l, ints(3, 0, 9, 0, 0), nil, -1}, {l, nil, nil, -1},
	} {
		if got := impl.StockLevels(c.of, c.plan); !slices.Equal(got, c.want) {
			t.Errorf("StockLevels(%v, %v) = %v, want %v", c.of, c.plan, got, c.want)
		}
		if got := impl.PlanCost(c.of, c.plan); got != c.cost {
			t.Errorf("PlanCost(%v, %v) = %d, want %d", c.of, c.plan, got, c.cost)
		}
	}
}

func TestLotPlan(t *testing.T) {
	some, none := 0, 0
	for _, l := range validLots() {
		for _, periods := range subsets(len(l.Demands)) {
			want, ok := wantLotPlan(l, periods)
			if got := impl.LotPlan(l, periods); !slices.Equal(got, want) {
				t.Errorf("LotPlan(%v, %v) = %v, want %v", l, periods, got, want)
			}
			if ok {
				some++
			} else {
				none++
			}
		}
	}
	if some < 1000 || none < 1000 {
		t.Errorf("%d periods have a plan, and %d have none", some, none)
	}
}

func TestLotPlans(t *testing.T) {
	l := lots(10, 1, 3, 0, 4, 5)
	late := lots(10, 1, 0, 0, 4, 5)
	none := lots(10, 1, 0, 0, 0)
	for _, c := range []struct {
		of      impl.Lots
		periods []int
		want    []int
	}{
		{lots(1, 1), nil, nil}, {lots(1, 1), ints(0), nil}, {lots(1, 1, 9), ints(0), ints(9)}, {lots(1, 1, 9), ints(), nil}, {lots(1, 1, 9), ints(1), nil},
		{l, ints(0), ints(12, 0, 0, 0)}, {l, ints(0, 1), ints(3, 9, 0, 0)}, {l, ints(0, 2), ints(3, 0, 9, 0)}, {l, ints(0, 3), ints(7, 0, 0, 5)}, {l, ints(0, 1, 2), ints(3, 0, 9, 0)}, {l, ints(0, 1, 3), ints(3, 4, 0, 5)}, {l, ints(0, 1, 2, 3), ints(3, 0, 4, 5)}, {l, ints(1), nil}, {l, ints(1, 2), nil}, {l, ints(3), nil}, {l, nil, nil},
		// Before the first lot there may be periods without demand.
		{late, ints(0), ints(9, 0, 0, 0)}, {late, ints(1), ints(0, 9, 0, 0)}, {late, ints(2), ints(0, 0, 9, 0)}, {late, ints(3), nil}, {late, ints(2, 3), ints(0, 0, 4, 5)}, {late, ints(1, 3), ints(0, 4, 0, 5)}, {late, ints(0, 1), ints(0, 9, 0, 0)}, {late, ints(0, 1, 2, 3), ints(0, 0, 4, 5)}, {late, nil, nil},
		// Without demand no lot is needed.
		{none, nil, ints(0, 0, 0)}, {none, ints(), ints(0, 0, 0)}, {none, ints(2), ints(0, 0, 0)}, {none, ints(0, 1, 2), ints(0, 0, 0)}, {none, ints(3), nil}, {none, ints(1, 1), nil},
		{l, ints(0, 0), nil}, {l, ints(0, 2, 1), nil}, {l, ints(2, 0), nil}, {l, ints(0, 4), nil}, {l, ints(-1, 0), nil}, {l, ints(-1), nil}, {l, ints(0, 2, 2), nil},
		{lots(0, 0, slices.Repeat(ints(99), 8)...), ints(0), ints(792, 0, 0, 0, 0, 0, 0, 0)}, {lots(0, 0, slices.Repeat(ints(99), 8)...), ints(0, 7), ints(693, 0, 0, 0, 0, 0, 0, 99)}, {lots(0, 0, slices.Repeat(ints(99), 9)...), ints(0), nil}, {lots(0, 0, 99, 100), ints(0), nil}, {lots(0, 100, 9), ints(0), nil}, {lots(-1, 0, 9), ints(0), nil},
	} {
		if got := impl.LotPlan(c.of, c.periods); !slices.Equal(got, c.want) {
			t.Errorf("LotPlan(%v, %v) = %v, want %v", c.of, c.periods, got, c.want)
		}
	}
}

func TestBestLots(t *testing.T) {
	several, some := 0, 0
	for _, l := range validLots() {
		want, cost := wantBestLots(l)
		if got, n := impl.BestLots(l); n != cost || !slices.Equal(got, want) {
			t.Errorf("BestLots(%v) = %v, %d, want %v, %d", l, got, n, want, cost)
		}
		switch {
		case len(want) > 1 && len(want) < len(l.Demands):
			some++
		case len(want) > 1:
			several++
		}
	}
	if several < 50 || some < 50 {
		t.Errorf("%d best lots are in all periods, and %d in some of several", several, some)
	}
}

func TestBestPeriods(t *testing.T) {
	for _, c := range []struct {
		of   impl.Lots
		want []int
		cost int
	}{
		// Without demand no periods come first, even if more of them would cost nothing too.
		{lots(0, 0), nil, 0}, {lots(9, 9), nil, 0}, {lots(9, 9, 0), nil, 0}, {lots(0, 0, 0, 0, 0), nil, 0}, {lots(5, 5, make([]int, 8)...), nil, 0},
		{lots(9, 9, 1), ints(0), 9}, {lots(0, 9, 1), ints(0), 0}, {lots(10, 1, 3, 0, 4, 5), ints(0, 1, 2), 25}, {lots(10, 1, 3, 4, 5), ints(0), 24}, {lots(99, 1, 3, 4, 5), ints(0), 113}, {lots(1, 9, 3, 4, 5), ints(0, 1, 2), 3},
		// A lot of nothing costs nothing, so that lots begin in the first period.
		{lots(7, 2, 0, 5), ints(0, 1), 7}, {lots(7, 2, 0, 0, 5), ints(0, 1, 2), 7}, {lots(7, 0, 0, 0, 5), ints(0), 7}, {lots(0, 0, 0, 0, 5), ints(0), 0}, {lots(7, 2, 0, 0, 5, 0, 1), ints(0, 1, 2), 11}, {lots(4, 2, 0, 0, 5, 0, 1), ints(0, 1, 2), 8}, {lots(3, 2, 0, 0, 5, 0, 1), ints(0, 1, 2, 3, 4), 6},
		// Periods without demand behind all others need no lot.
		{lots(7, 2, 5, 0), ints(0), 7}, {lots(7, 2, 5, 0, 0, 0), ints(0), 7}, {lots(0, 2, 5, 0, 0, 0), ints(0), 0}, {lots(2, 1, 5, 5, 0), ints(0, 1), 4},
		// Of the same cost the lexicographically smallest periods: fewer of them if the others begin alike.
		{lots(5, 1, 3, 5), ints(0), 10}, {lots(5, 1, 3, 6), ints(0, 1), 10}, {lots(5, 1, 3, 4), ints(0), 9}, {lots(4, 1, 2, 2, 2), ints(0), 10}, {lots(4, 2, 2, 2, 2), ints(0, 1), 12}, {lots(2, 1, 1, 1, 1, 1), ints(0, 2), 6}, {lots(1, 1, 1, 1, 1, 1), ints(0, 1, 2), 4}, {lots(0, 0, 1, 1, 1), ints(0), 0}, {lots(0, 1, 1, 1, 1), ints(0, 1, 2), 0}, {lots(3, 0, 1, 1, 1), ints(0), 3},
		{lots(99, 99, slices.Repeat(ints(99), 8)...), ints(0, 1, 2, 3, 4, 5, 6, 7), 792}, {lots(99, 0, slices.Repeat(ints(99), 8)...), ints(0), 99}, {lots(99, 1, slices.Repeat(ints(99), 8)...), ints(0, 1, 2, 3, 4, 5, 6), 792}, {lots(9, 9, make([]int, 9)...), nil, -1}, {lots(9, 9, 100), nil, -1}, {lots(100, 9, 1), nil, -1}, {lots(9, 100, 1), nil, -1},
	} {
		if got, n := impl.BestLots(c.of); n != c.cost || !slices.Equal(got, c.want) {
			t.Errorf("BestLots(%v) = %v, %d, want %v, %d", c.of, got, n, c.want, c.cost)
		}
	}
}

func TestLotsWithInvalidArguments(t *testing.T) {
	checkPlan := func(l impl.Lots, plan []int) {
		if got := impl.StockLevels(l, plan); len(got) != 0 {
			t.Errorf("StockLevels(%v, %v) = %v", l, plan, got)
		}
		if got := impl.PlanCost(l, plan); got != -1 {
			t.Errorf("PlanCost(%v, %v) = %d", l, plan, got)
		}
	}
	for _, l := range invalidLots() {
		n := len(l.Demands)
		checkPlan(l, l.Demands)
		checkPlan(l, slices.Repeat(ints(impl.MaxAmount), n))
		for _, periods := range [][]int{nil, {0}, {0, 1}, {0, 1, 2}, {100}} {
			checkPlan(l, periods)
			if got := impl.LotPlan(l, periods); len(got) != 0 {
				t.Errorf("LotPlan(%v, %v) = %v", l, periods, got)
			}
		}
		if got, cost := impl.BestLots(l); cost != -1 || len(got) != 0 {
			t.Errorf("BestLots(%v) = %v, %d", l, got, cost)
		}
	}
	for n := range impl.MaxPeriods + 1 {
		for _, demand := range []int{0, 1} {
			l := lots(1, 1, slices.Repeat(ints(demand), n)...)
			for _, plan := range wrongPlans(n) {
				checkPlan(l, plan)
			}
			for _, periods := range wrongSets(n) {
				if got := impl.LotPlan(l, periods); len(got) != 0 {
					t.Errorf("LotPlan(%v, %v) = %v", l, periods, got)
				}
			}
		}
	}
}

// forPlans calls a function for valid lots and plans for which no stock is negative.
func forPlans(t *testing.T, call func(l impl.Lots, plan []int, levels []int)) {
	t.Helper()
	r := numbers()
	count := 0
	for _, l := range validLots() {
		for _, plan := range plansFor(r, l) {
			if impl.PlanCost(l, plan) >= 0 {
				call(l, plan, impl.StockLevels(l, plan))
				count++
			}
		}
	}
	if count < 1000 {
		t.Errorf("only %d plans", count)
	}
}

func TestP112WhatIsMadeIsUsedOrInStock(t *testing.T) {
	forPlans(t, func(l impl.Lots, plan []int, levels []int) {
		n := len(plan)
		if len(levels) != n || n > 0 && levels[n-1] != total(plan)-total(l.Demands) {
			t.Errorf("StockLevels(%v, %v) = %v", l, plan, levels)
		}
	})
}

func TestP113PlansCostSetupsAndStock(t *testing.T) {
	forPlans(t, func(l impl.Lots, plan []int, levels []int) {
		cost := l.Hold * total(levels)
		for _, amount := range plan {
			if amount > 0 {
				cost += l.Setup
			}
		}
		if got := impl.PlanCost(l, plan); got != cost {
			t.Errorf("PlanCost(%v, %v) = %d, want %d", l, plan, got, cost)
		}
	})
}

func TestP114NoPlanIsCheaperThanTheBestLots(t *testing.T) {
	dearer := 0
	forPlans(t, func(l impl.Lots, plan []int, _ []int) {
		_, best := impl.BestLots(l)
		cost := impl.PlanCost(l, plan)
		if !within(best, 0, cost) {
			t.Errorf("BestLots(%v) cost %d, but %v costs %d", l, best, plan, cost)
		}
		if cost > best {
			dearer++
		}
	})
	if dearer < 1000 {
		t.Errorf("only %d plans are dearer", dearer)
	}
	// All plans for few demands.
	for _, demands := range pointsBetween(ints(0, 0, 0), ints(2, 2, 2)) {
		for _, costs := range pointsBetween(ints(0, 0), ints(5, 3)) {
			l := lots(costs[0], costs[1], demands...)
			_, best := impl.BestLots(l)
			least := best + 1
			for _, plan := range pointsBetween(ints(0, 0, 0), ints(6, 4, 2)) {
				if cost := impl.PlanCost(l, plan); cost >= 0 {
					least = min(least, cost)
				}
			}
			if least != best {
				t.Errorf("BestLots(%v) cost %d, but a plan %d", l, best, least)
			}
		}
	}
}

func TestP115LotsBeginWithAnEmptyStock(t *testing.T) {
	several := 0
	for _, l := range validLots() {
		for _, periods := range subsets(len(l.Demands)) {
			plan := impl.LotPlan(l, periods)
			if len(plan) == 0 {
				continue
			}
			levels := impl.StockLevels(l, plan)
			if len(levels) != len(plan) || levels[len(levels)-1] != 0 {
				t.Fatalf("LotPlan(%v, %v) = %v, and StockLevels are %v", l, periods, plan, levels)
			}
			for k, amount := range plan {
				switch {
				case amount == 0 || k == 0:
				case levels[k-1] != 0:
					t.Errorf("LotPlan(%v, %v) = %v, and StockLevels are %v", l, periods, plan, levels)
				default:
					several++
				}
			}
		}
	}
	if several < 1000 {
		t.Errorf("only %d lots begin later", several)
	}
}

func TestP116TheBestLotsAreAPlan(t *testing.T) {
	for _, l := range validLots() {
		periods, best := impl.BestLots(l)
		plan := impl.LotPlan(l, periods)
		if cost := impl.PlanCost(l, plan); cost != best || len(plan) != len(l.Demands) {
			t.Errorf("BestLots(%v) = %v, %d, but LotPlan is %v with the cost %d", l, periods, best, plan, cost)
		}
	}
}

func TestP117SetupsAndStockAreWeighed(t *testing.T) {
	for _, l := range validLots() {
		if _, cost := impl.BestLots(lots(0, l.Hold, l.Demands...)); cost != 0 {
			t.Errorf("BestLots(%v) cost %d without Setup", l, cost)
		}
		want := 0
		if total(l.Demands) > 0 {
			want = l.Setup
		}
		if _, cost := impl.BestLots(lots(l.Setup, 0, l.Demands...)); cost != want {
			t.Errorf("BestLots(%v) cost %d without Hold", l, cost)
		}
	}
}

func TestP118MoreDemandIsNotCheaper(t *testing.T) {
	dearer, same := 0, 0
	for _, l := range validLots() {
		last := len(l.Demands) - 1
		if last < 0 || l.Demands[last] == impl.MaxBound {
			continue
		}
		_, cost := impl.BestLots(l)
		_, more := impl.BestLots(withDemand(l, last, l.Demands[last]+1))
		if !within(more, cost, cost+l.Setup) {
			t.Errorf("BestLots(%v) cost %d, but %d with more demand", l, cost, more)
		}
		if more > cost {
			dearer++
		} else {
			same++
		}
	}
	if dearer < 30 || same < 30 {
		t.Errorf("%d best lots are dearer with more demand, and %d are not", dearer, same)
	}
}

func TestLotsAreNotChangedAndNotShared(t *testing.T) {
	for _, l := range append(validLots(), invalidLots()...) {
		periods, _ := impl.BestLots(l)
		list := [][]int{periods, nil, {0}, {0, 1, 2}}
		for _, set := range list {
			kept := impl.Lots{Demands: spare(l.Demands), Setup: l.Setup, Hold: l.Hold}
			made, chosen := spare(slices.Repeat(ints(impl.MaxAmount), len(l.Demands))), spare(set)
			checkMemory(t, "a function of chapter 18", []any{kept, made, chosen}, func() []any {
				best, cost := impl.BestLots(kept)
				return []any{best, cost, impl.StockLevels(kept, made), impl.PlanCost(kept, made), impl.LotPlan(kept, chosen), impl.StockLevels(kept, kept.Demands)}
			})
		}
	}
}
