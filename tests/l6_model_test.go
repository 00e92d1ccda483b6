package tests

import (
	"math/rand"
	"slices"
	"testing"

	"loop.example/integerplanner/impl"
)

// shipping has the arguments of TransportModel.
type shipping struct {
	supplies, demands []int
	costs             [][]int
}

// covering has the arguments of CoverModel.
type covering struct {
	sets     [][]int
	costs    []int
	elements int
}

// packing has the arguments of KnapsackModel.
type packing struct {
	values, weights []int
	capacity        int
}

// randomNumbers returns n numbers in low..high.
func randomNumbers(r *rand.Rand, n int, low int, high int) []int {
	list := make([]int, n)
	for i := range list {
		list[i] = r.Intn(high-low+1) + low
	}
	return list
}

// table returns a table with the same number everywhere.
func table(rows int, columns int, v int) [][]int {
	list := make([][]int, rows)
	for i := range list {
		list[i] = slices.Repeat(ints(v), columns)
	}
	return list
}

// spareTable returns a copy of a table with marks in the spare capacity of all slices.
func spareTable(list [][]int) [][]int {
	long := make([][]int, 0, len(list)+2)
	for _, line := range list {
		long = append(long, spare(line))
	}
	for i := len(long); i < cap(long); i++ {
		long[:cap(long)][i] = ints(mark)
	}
	return long
}

// shippings returns valid arguments of TransportModel of all sizes.
func shippings() []shipping {
	list := []shipping{
		{ints(0), ints(0), table(1, 1, 0)}, {ints(99), ints(99), table(1, 1, 99)}, {ints(99), slices.Repeat(ints(99), 5), table(1, 5, 99)}, {slices.Repeat(ints(99), 5), ints(99), table(5, 1, 99)},
	}
	r := numbers()
	for n := range 200 {
		size := [][2]int{{1, 1}, {1, 2}, {2, 1}, {2, 2}, {1, 3}, {3, 1}, {1, 4}, {4, 1}, {1, 5}, {5, 1}}[n%10]
		most := []int{3, 12, impl.MaxBound}[r.Intn(3)]
		c := shipping{supplies: randomNumbers(r, size[0], 0, most), demands: randomNumbers(r, size[1], 0, r.Intn(most+1))}
		for range size[0] {
			c.costs = append(c.costs, randomNumbers(r, size[1], 0, impl.MaxCost))
		}
		list = append(list, c)
	}
	return list
}

// wantShipping returns the problem of valid arguments of TransportModel.
func wantShipping(c shipping) impl.Problem {
	var p impl.Problem
	n := len(c.supplies) * len(c.demands)
	for s, supply := range c.supplies {
		r := row(impl.AtMost, supply, make([]int, n)...)
		for k, demand := range c.demands {
			p.Costs = append(p.Costs, c.costs[s][k])
			p.Uppers = append(p.Uppers, min(9, supply, demand))
			r.Coefs[s*len(c.demands)+k] = 1
		}
		p.Rows = append(p.Rows, r)
	}
	for k, demand := range c.demands {
		r := row(impl.AtLeast, demand, make([]int, n)...)
		for s := range c.supplies {
			r.Coefs[s*len(c.demands)+k] = 1
		}
		p.Rows = append(p.Rows, r)
	}
	return p
}

func TestTransportModel(t *testing.T) {
	for _, c := range shippings() {
		if p, ok := impl.TransportModel(c.supplies, c.demands, c.costs); !ok || !sameProblem(p, wantShipping(c)) {
			t.Errorf("TransportModel(%v) = %v, %t", c, p, ok)
		}
	}
	p, ok := impl.TransportModel(ints(3, 20), ints(2, 15), [][]int{{1, 4}, {3, 2}})
	want := problem(ints(1, 4, 3, 2), ints(2, 3, 2, 9), row(1, 3, 1, 1, 0, 0), row(1, 20, 0, 0, 1, 1), row(2, 2, 1, 0, 1, 0), row(2, 15, 0, 1, 0, 1))
	if !ok || !sameProblem(p, want) {
		t.Errorf("TransportModel = %v, %t", p, ok)
	}
}

func TestTransportModelWithInvalidArguments(t *testing.T) {
	list := []shipping{
		{nil, nil, nil}, {ints(1), nil, table(1, 0, 0)}, {ints(1), nil, nil}, {nil, ints(1), nil}, {ints(1, 1, 1, 1, 1, 1), nil, table(6, 0, 0)}, {nil, slices.Repeat(ints(1), 6), nil},
		{ints(1, 1), ints(1, 1, 1), table(2, 3, 1)}, {ints(1, 1, 1), ints(1, 1), table(3, 2, 1)}, {ints(1), slices.Repeat(ints(1), 6), table(1, 6, 1)}, {slices.Repeat(ints(1), 6), ints(1), table(6, 1, 1)}, {slices.Repeat(ints(1), 3), slices.Repeat(ints(1), 3), table(3, 3, 1)},
		{ints(1, 1), ints(1, 1), nil}, {ints(1, 1), ints(1, 1), table(1, 2, 1)}, {ints(1, 1), ints(1, 1), table(3, 2, 1)}, {ints(1, 1), ints(1, 1), table(2, 1, 1)}, {ints(1, 1), ints(1, 1), table(2, 3, 1)},
		{ints(1, 1), ints(1, 1), table(1, 4, 1)}, {ints(1, 1), ints(1, 1), table(4, 1, 1)}, {ints(1, 1), ints(1, 1), [][]int{{1, 1}, {1}}}, {ints(1, 1), ints(1, 1), [][]int{{1}, {1, 1, 1}}}, {ints(1, 1), ints(1, 1), [][]int{{1, 1, 1}, {1}}}, {ints(1, 1), ints(1, 1), [][]int{{1, 1}, nil}}, {ints(1, 1), ints(1, 1), [][]int{nil, {1, 1}}},
	}
	for _, v := range []int{-1, impl.MaxBound + 1, greatestInt, leastInt} {
		for i := range 2 {
			list = append(list, shipping{changed(ints(1, 1), i, v), ints(1, 1), table(2, 2, 1)}, shipping{ints(1, 1), changed(ints(1, 1), i, v), table(2, 2, 1)})
			for k := range 2 {
				costs := table(2, 2, 1)
				costs[i][k] = v
				list = append(list, shipping{ints(1, 1), ints(1, 1), costs})
			}
		}
	}
	// So many pairs that nobody can go through them.
	many := make([]int, 1<<20)
	list = append(list, shipping{many, many, slices.Repeat([][]int{many}, 1<<20)}, shipping{many, nil, make([][]int, 1<<20)})
	for i, c := range list {
		if p, ok := impl.TransportModel(c.supplies, c.demands, c.costs); ok || !noProblem(p) {
			t.Errorf("TransportModel of invalid arguments %d = %v, %t", i, p, ok)
		}
	}
}

// TestShippedAmounts compares the feasible points of TransportModel with what they mean.
func TestShippedAmounts(t *testing.T) {
	for _, c := range shippings() {
		p, _ := impl.TransportModel(c.supplies, c.demands, c.costs)
		for _, x := range somePoints(p) {
			want, cost := true, 0
			sent, got := make([]int, len(c.supplies)), make([]int, len(c.demands))
			for s := range sent {
				for k := range got {
					v := x[s*len(got)+k]
					sent[s] += v
					got[k] += v
					cost += v * c.costs[s][k]
				}
				want = want && sent[s] <= c.supplies[s]
			}
			for k := range got {
				want = want && got[k] >= c.demands[k]
			}
			if f, n := impl.Feasible(p, x), impl.CostOf(p, x); f != want || n != cost {
				t.Errorf("%v at %v: %t, %d", c, x, f, n)
			}
		}
	}
}

func TestP36PlansOfShippingMeetAllDemands(t *testing.T) {
	plans, shipped := 0, 0
	for _, c := range shippings() {
		p, _ := impl.TransportModel(c.supplies, c.demands, c.costs)
		x, cost := impl.SolveExact(p)
		if cost < 0 {
			continue
		}
		plans++
		for s, supply := range c.supplies {
			if sent := total(x[s*len(c.demands) : (s+1)*len(c.demands)]); sent > supply {
				t.Errorf("%v: supplier %d ships %d in %v", c, s, sent, x)
			}
		}
		for k, demand := range c.demands {
			got := 0
			for s := range c.supplies {
				got += x[s*len(c.demands)+k]
			}
			shipped += got
			if got < demand {
				t.Errorf("%v: customer %d gets %d in %v", c, k, got, x)
			}
		}
	}
	if plans < 50 || shipped < 200 {
		t.Errorf("%d plans ship %d", plans, shipped)
	}
}

func TestP37WhatIsMissingCannotBeShipped(t *testing.T) {
	missing, enough := 0, 0
	for _, c := range shippings() {
		p, _ := impl.TransportModel(c.supplies, c.demands, c.costs)
		n, left := impl.CountFeasible(p), 0
		for _, a := range c.supplies {
			left += a
		}
		for _, a := range c.demands {
			left -= a
		}
		switch {
		case left < 0 && n != 0:
			t.Errorf("%v has %d feasible points", c, n)
		case left < 0:
			missing++
		case n > 0:
			enough++
		}
	}
	if missing < 20 || enough < 20 {
		t.Errorf("too few problems: %d lack supplies, and %d have feasible points", missing, enough)
	}
}

// coverings returns valid arguments of CoverModel of all sizes.
func coverings() []covering {
	list := []covering{
		{[][]int{nil}, ints(0), 0}, {[][]int{{}}, ints(99), 6}, {table(5, 0, 0), ints(1, 2, 3, 4, 5), 0}, {[][]int{{0, 1, 2, 3, 4, 5}}, ints(1), 6}, {table(5, 1, 5), ints(1, 2, 3, 4, 5), 6}, {[][]int{{0}, {0}}, ints(1, 1), 1},
	}
	r := numbers()
	for n := range 100 {
		c := covering{costs: randomNumbers(r, n%impl.MaxVars+1, 0, impl.MaxCost), elements: r.Intn(impl.MaxRows + 1)}
		for range c.costs {
			var set []int
			for e := range c.elements {
				if r.Intn(2) == 0 {
					set = append(set, e)
				}
			}
			c.sets = append(c.sets, set)
		}
		list = append(list, c)
	}
	return list
}

func TestCoverModel(t *testing.T) {
	for _, c := range coverings() {
		want := problem(c.costs, slices.Repeat(ints(1), len(c.costs)))
		for e := range c.elements {
			r := row(impl.AtLeast, 1, make([]int, len(c.costs))...)
			for i, set := range c.sets {
				if slices.Contains(set, e) {
					r.Coefs[i] = 1
				}
			}
			want.Rows = append(want.Rows, r)
		}
		if p, ok := impl.CoverModel(c.sets, c.costs, c.elements); !ok || !sameProblem(p, want) {
			t.Errorf("CoverModel(%v) = %v, %t", c, p, ok)
		}
	}
	p, ok := impl.CoverModel([][]int{{0, 2}, {}, {1, 2}}, ints(7, 0, 99), 4)
	want := problem(ints(7, 0, 99), ints(1, 1, 1), row(2, 1, 1, 0, 0), row(2, 1, 0, 0, 1), row(2, 1, 1, 0, 1), row(2, 1, 0, 0, 0))
	if !ok || !sameProblem(p, want) {
		t.Errorf("CoverModel = %v, %t", p, ok)
	}
}

func TestCoverModelWithInvalidArguments(t *testing.T) {
	list := []covering{
		{nil, nil, 0}, {nil, nil, 1}, {nil, ints(1), 1}, {[][]int{{0}}, nil, 1}, {[][]int{{0}}, ints(1, 1), 1}, {[][]int{{0}, {0}}, ints(1), 1}, {table(6, 1, 0), slices.Repeat(ints(1), 6), 1}, {table(6, 1, 0), slices.Repeat(ints(1), 5), 1}, {table(5, 1, 0), slices.Repeat(ints(1), 6), 1},
		{[][]int{{0}}, ints(1), -1}, {[][]int{{}}, ints(1), -1}, {[][]int{{0}}, ints(1), 7}, {[][]int{{}}, ints(1), 7}, {[][]int{{}}, ints(1), greatestInt}, {[][]int{{}}, ints(1), leastInt},
		{table(1000, 0, 0), make([]int, 1000), 6},
	}
	for _, set := range [][]int{{1, 0}, {0, 0}, {1, 1}, {0, 2, 1}, {0, 1, 1}, {2, 1, 0}, {-1}, {-1, 0}, {3}, {0, 1, 2, 3}, {0, 3}, {leastInt}, {greatestInt}, {greatestInt, leastInt}, {leastInt, 0}} {
		list = append(list, covering{[][]int{set}, ints(1), 3}, covering{[][]int{{0, 1, 2}, set}, ints(1, 1), 3}, covering{[][]int{set, {0, 1, 2}}, ints(1, 1), 3})
	}
	list = append(list, covering{[][]int{{0}}, ints(1), 0}, covering{[][]int{{5}, {6}}, ints(1, 1), 6})
	for _, v := range []int{-1, impl.MaxCost + 1, greatestInt, leastInt} {
		list = append(list, covering{[][]int{{0}, {1}}, ints(v, 1), 2}, covering{[][]int{{0}, {1}}, ints(1, v), 2})
	}
	for _, c := range list {
		if p, ok := impl.CoverModel(c.sets, c.costs, c.elements); ok || !noProblem(p) {
			t.Errorf("CoverModel(%v) = %v, %t", c, p, ok)
		}
	}
}

func TestP38ChosenSetsCoverEverything(t *testing.T) {
	possible := 0
	for _, c := range coverings() {
		p, _ := impl.CoverModel(c.sets, c.costs, c.elements)
		covers := func(x []int) bool {
			covered := make([]bool, c.elements)
			for i, set := range c.sets {
				for _, e := range set {
					covered[e] = covered[e] || x[i] == 1
				}
			}
			return !slices.Contains(covered, false)
		}
		any := false
		for _, x := range pointsOf(p) {
			got := impl.Feasible(p, x)
			if got != covers(x) {
				t.Errorf("%v with %v: %t", c, x, got)
			}
			any = any || got
		}
		if all := impl.Feasible(p, slices.Repeat(ints(1), len(c.sets))); all != any {
			t.Errorf("%v: all sets cover: %t, and some do: %t", c, all, any)
		}
		if any {
			possible++
		}
	}
	if possible < 20 || possible > 90 {
		t.Errorf("%d covers are possible", possible)
	}
}

// packings returns valid arguments of KnapsackModel of all sizes.
func packings() []packing {
	list := []packing{
		{ints(0), ints(0), 0}, {ints(0), ints(0), 99}, {ints(99), ints(9), 99}, {slices.Repeat(ints(99), 5), slices.Repeat(ints(9), 5), 0}, {slices.Repeat(ints(99), 5), slices.Repeat(ints(9), 5), 99},
		{ints(1), ints(-9), 90}, {ints(1, 1), ints(-1, 1), 99}, {slices.Repeat(ints(1), 5), slices.Repeat(ints(-9), 5), 54},
	}
	r := numbers()
	for n := range 100 {
		size := n%impl.MaxVars + 1
		list = append(list, packing{randomNumbers(r, size, 0, impl.MaxCost), randomNumbers(r, size, 1, impl.MaxCoef), r.Intn(50)})
	}
	return list
}

func TestKnapsackModel(t *testing.T) {
	for _, c := range packings() {
		bound := -c.capacity
		for _, w := range c.weights {
			bound += w
		}
		want := problem(c.values, slices.Repeat(ints(1), len(c.values)), row(impl.AtLeast, bound, c.weights...))
		if p, ok := impl.KnapsackModel(c.values, c.weights, c.capacity); !ok || !sameProblem(p, want) {
			t.Errorf("KnapsackModel(%v) = %v, %t", c, p, ok)
		}
	}
	p, ok := impl.KnapsackModel(ints(7, 5, 0), ints(4, 3, 9), 17)
	if want := problem(ints(7, 5, 0), ints(1, 1, 1), row(2, -1, 4, 3, 9)); !ok || !sameProblem(p, want) {
		t.Errorf("KnapsackModel = %v, %t", p, ok)
	}
}

func TestKnapsackModelWithInvalidArguments(t *testing.T) {
	list := []packing{
		{nil, nil, 0}, {nil, nil, 5}, {ints(1), nil, 5}, {nil, ints(1), 5}, {ints(1, 2), ints(1), 5}, {ints(1), ints(1, 2), 5}, {slices.Repeat(ints(1), 6), slices.Repeat(ints(1), 6), 5}, {slices.Repeat(ints(1), 5), slices.Repeat(ints(1), 6), 5}, {slices.Repeat(ints(1), 6), slices.Repeat(ints(1), 5), 5}, {make([]int, 1000), make([]int, 1000), 5},
		{ints(1), ints(1), -1}, {ints(1), ints(1), 100}, {ints(1), ints(1), greatestInt}, {ints(1), ints(1), leastInt}, {ints(1), ints(9), 100}, {ints(1), ints(-9), -1},
		{ints(1), ints(-1), 99}, {ints(1, 1), ints(-1, 0), 99}, {ints(1), ints(-9), 91}, {slices.Repeat(ints(1), 5), slices.Repeat(ints(-9), 5), 55},
		{ints(1, 1, 1), ints(greatestInt, greatestInt, 2), 0}, {ints(1, 1), ints(leastInt, leastInt), 0},
	}
	for _, v := range []int{-1, impl.MaxCost + 1, greatestInt, leastInt} {
		list = append(list, packing{ints(v, 1), ints(1, 1), 1}, packing{ints(1, v), ints(1, 1), 1})
	}
	for _, v := range []int{10, -10, greatestInt, leastInt} {
		list = append(list, packing{ints(1, 1), ints(v, 1), 1}, packing{ints(1, 1), ints(1, v), 1})
	}
	for _, c := range list {
		if p, ok := impl.KnapsackModel(c.values, c.weights, c.capacity); ok || !noProblem(p) {
			t.Errorf("KnapsackModel(%v) = %v, %t", c, p, ok)
		}
	}
}

// TestPackedItems compares the feasible points of KnapsackModel with what they mean.
func TestPackedItems(t *testing.T) {
	for _, c := range packings() {
		p, _ := impl.KnapsackModel(c.values, c.weights, c.capacity)
		for _, x := range pointsOf(p) {
			load, lost := 0, 0
			for i, left := range x {
				load += (1 - left) * c.weights[i]
				lost += left * c.values[i]
			}
			if f, n := impl.Feasible(p, x), impl.CostOf(p, x); f != (load <= c.capacity) || n != lost {
				t.Errorf("%v without %v: %t, %d", c, x, f, n)
			}
		}
	}
}

func TestModelsAreNotChangedAndNotShared(t *testing.T) {
	for _, c := range append(shippings(), shipping{ints(1, 100), ints(1), table(2, 1, 1)}, shipping{ints(1), ints(1), table(1, 1, 100)}) {
		a, b, costs := spare(c.supplies), spare(c.demands), spareTable(c.costs)
		checkMemory(t, "TransportModel", []any{a, b, costs}, func() []any {
			p, ok := impl.TransportModel(a, b, costs)
			return []any{p, ok}
		})
	}
	for _, c := range append(coverings(), covering{table(1, 2, 0), ints(1), 1}) {
		sets, costs := spareTable(c.sets), spare(c.costs)
		checkMemory(t, "CoverModel", []any{sets, costs}, func() []any {
			p, ok := impl.CoverModel(sets, costs, c.elements)
			return []any{p, ok}
		})
	}
	for _, c := range append(packings(), packing{ints(1), ints(10), 1}) {
		values, weights := spare(c.values), spare(c.weights)
		checkMemory(t, "KnapsackModel", []any{values, weights}, func() []any {
			p, ok := impl.KnapsackModel(values, weights, c.capacity)
			return []any{p, ok}
		})
	}
}
