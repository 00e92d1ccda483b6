package tests

import (
	"slices"
	"testing"

	"loop.example/integerplanner/impl"
)

// graph has a number of nodes and edges.
type graph struct {
	n     int
	edges []impl.Edge
}

// edgesOf returns the edges of pairs of nodes.
func edgesOf(pairs ...int) []impl.Edge {
	var list []impl.Edge
	for i := 0; i < len(pairs); i += 2 {
		list = append(list, impl.Edge{A: pairs[i], B: pairs[i+1]})
	}
	return list
}

// allPairs returns the edges of n nodes that are all connected.
func allPairs(n int) []impl.Edge {
	var list []impl.Edge
	for a := range n {
		for b := a + 1; b < n; b++ {
			list = append(list, impl.Edge{A: a, B: b})
		}
	}
	return list
}

// spareEdges returns a copy of edges with marks in its spare capacity.
func spareEdges(edges []impl.Edge) []impl.Edge {
	long := slices.Concat(edges, edgesOf(mark, mark, mark, mark))
	return long[:len(edges)]
}

// validGraphs returns all graphs with at most 4 nodes, and some of all larger sizes.
func validGraphs() []graph {
	var list []graph
	for n := range 5 {
		pairs := allPairs(n)
		for _, chosen := range subsets(len(pairs)) {
			g := graph{n: n}
			for _, k := range chosen {
				g.edges = append(g.edges, pairs[k])
			}
			list = append(list, g)
		}
	}
	r := numbers()
	for n := 5; n <= impl.MaxNodes; n++ {
		list = append(list, graph{n, nil}, graph{n, allPairs(n)}, graph{n, edgesOf(0, n-1)}, graph{n, edgesOf(n-2, n-1)}, graph{n, allPairs(n)[1:]}, graph{n, allPairs(n)[:n*(n-1)/2-1]})
		for k := range 40 {
			g := graph{n: n}
			for _, e := range allPairs(n) {
				if r.Intn(8) < 1+k%7 {
					g.edges = append(g.edges, e)
				}
			}
			list = append(list, g)
		}
	}
	return list
}

// invalidGraphs returns graphs with one fault each.
func invalidGraphs() []graph {
	list := []graph{{-1, nil}, {impl.MaxNodes + 1, nil}, {impl.MaxNodes + 1, edgesOf(0, 1)}, {greatestInt, nil}, {greatestInt, edgesOf(0, 1)}, {leastInt, nil}, {leastInt, edgesOf(0, 1)}, {0, edgesOf(0, 1)}, {0, edgesOf(0, 0)}, {1, edgesOf(0, 1)}, {1, edgesOf(0, 0)}, {0, edgesOf(-1, 0)}}
	for _, pairs := range [][]int{
		{1, 0}, {0, 0}, {1, 1}, {3, 3}, {3, 2}, {0, 4}, {3, 4}, {4, 5}, {-1, 0}, {-1, 3}, {-2, -1}, {leastInt, 0}, {leastInt, greatestInt}, {0, greatestInt}, {0, leastInt}, {greatestInt, leastInt}, {greatestInt, greatestInt}, {greatestInt, 0}, {greatestInt - 1, greatestInt}, {leastInt, leastInt + 1},
		{0, 1, 0, 1}, {0, 2, 0, 1}, {0, 3, 0, 1}, {1, 2, 0, 1}, {1, 2, 0, 3}, {2, 3, 0, 1}, {1, 3, 1, 2}, {0, 1, 1, 0}, {0, 1, 1, 2, 1, 2}, {0, 1, 1, 3, 1, 2}, {0, 1, 2, 3, 1, 2}, {0, 2, 1, 2, 0, 3}, {0, 1, 0, 2, 0, 4}, {0, 1, 0, 2, 2, 2}, {0, 1, 0, 2, 2, 1}, {0, 1, 2, 3, 2, 3}, {0, 1, 2, 3, 2, 4}, {0, 1, 2, 3, 3, 4}, {0, 1, 2, 3, 0, 2},
	} {
		list = append(list, graph{4, edgesOf(pairs...)})
	}
	return append(list, graph{8, slices.Repeat(edgesOf(0, 1), 1000)}, graph{4, append(allPairs(4), impl.Edge{A: 0, B: 1})}, graph{8, edgesOf(0, 8)}, graph{8, edgesOf(7, 8)})
}

// areConnected reports whether two nodes have an edge, in any order.
func (g graph) areConnected(a int, b int) bool {
	return slices.Contains(g.edges, impl.Edge{A: min(a, b), B: max(a, b)})
}

// fits reports whether a node is connected with all nodes of a set.
func (g graph) fits(set []int, v int) bool {
	for _, other := range set {
		if !g.areConnected(v, other) {
			return false
		}
	}
	return true
}

// isClique reports whether each two nodes of a set are connected.
func (g graph) isClique(set []int) bool {
	for i, v := range set {
		if !g.fits(set[:i], v) {
			return false
		}
	}
	return true
}

// cliques returns all cliques, each in ascending order.
func (g graph) cliques() [][]int {
	var list [][]int
	for _, set := range subsets(g.n) {
		if g.isClique(set) {
			list = append(list, set)
		}
	}
	return list
}

func TestLimitsOfGraphs(t *testing.T) {
	if impl.MaxNodes != 8 {
		t.Error("the limit is wrong")
	}
}

func TestConflictEdges(t *testing.T) {
	many, large := 0, 0
	for _, c := range validLoads() {
		var want []impl.Edge
		for _, e := range allPairs(len(c.weights)) {
			if len(c.weights) <= impl.MaxNodes && c.weights[e.A]+c.weights[e.B] > c.capacity {
				want = append(want, e)
			}
		}
		if got := impl.ConflictEdges(c.weights, c.capacity); !slices.Equal(got, want) {
			t.Errorf("ConflictEdges(%v) = %v, want %v", c, got, want)
		}
		if len(want) > 0 {
			many++
		}
		if len(c.weights) > impl.MaxNodes {
			large++
		}
	}
	if many < 50 || large < 20 {
		t.Errorf("%d items have conflicts, and %d are too many", many, large)
	}
}

func TestConflicts(t *testing.T) {
	for _, c := range []struct {
		weights  []int
		capacity int
		want     []impl.Edge
	}{
		{nil, 0, nil}, {nil, 99, nil}, {ints(20), 0, nil}, {ints(20, 20), 39, edgesOf(0, 1)}, {ints(20, 20), 40, nil}, {ints(1, 1), 1, edgesOf(0, 1)}, {ints(1, 1), 2, nil},
		{ints(5, 4, 3, 6), 8, edgesOf(0, 1, 0, 3, 1, 3, 2, 3)}, {ints(6, 3, 4, 5), 8, edgesOf(0, 1, 0, 2, 0, 3, 2, 3)},
		// An item that does not fit alone fits with no other one.
		{ints(9, 1, 1, 9), 8, edgesOf(0, 1, 0, 2, 0, 3, 1, 3, 2, 3)}, {ints(1, 1, 9), 8, edgesOf(0, 2, 1, 2)}, {ints(3, 4, 5), 0, allPairs(3)},
		{slices.Repeat(ints(20), 8), 39, allPairs(8)}, {slices.Repeat(ints(20), 8), 40, nil}, {slices.Repeat(ints(20), 9), 39, nil}, {slices.Repeat(ints(20), 10), 39, nil},
	} {
		if got := impl.ConflictEdges(c.weights, c.capacity); !slices.Equal(got, c.want) {
			t.Errorf("ConflictEdges(%v, %d) = %v, want %v", c.weights, c.capacity, got, c.want)
		}
	}
}

func TestIsClique(t *testing.T) {
	cliques, not := 0, 0
	for _, g := range validGraphs() {
		for _, set := range subsets(g.n) {
			want := g.isClique(set)
			if got := impl.IsClique(g.n, g.edges, set); got != want {
				t.Errorf("IsClique(%v, %v) = %t", g, set, got)
			}
			if want {
				cliques++
			} else {
				not++
			}
		}
	}
	if cliques < 1000 || not < 1000 {
		t.Errorf("%d sets are cliques, and %d are not", cliques, not)
	}
}

func TestGrowClique(t *testing.T) {
	for _, g := range validGraphs() {
		for _, set := range subsets(g.n) {
			var want []int
			if g.isClique(set) {
				want = slices.Clone(set)
				for v := range g.n {
					if !slices.Contains(set, v) && g.fits(want, v) {
						want = append(want, v)
					}
				}
				slices.Sort(want)
			}
			if got := impl.GrowClique(g.n, g.edges, set); !slices.Equal(got, want) {
				t.Errorf("GrowClique(%v, %v) = %v, want %v", g, set, got, want)
			}
		}
	}
}

func TestBestClique(t *testing.T) {
	for _, g := range validGraphs() {
		var want []int
		for _, set := range g.cliques() {
			if len(set) > len(want) || len(set) == len(want) && slices.Compare(set, want) < 0 {
				want = set
			}
		}
		if got := impl.BestClique(g.n, g.edges); !slices.Equal(got, want) {
			t.Errorf("BestClique(%v) = %v, want %v", g, got, want)
		}
	}
}

func TestColorNodes(t *testing.T) {
	for _, g := range validGraphs() {
		want := make([]int, g.n)
		for v := range want {
			for other := 0; other < v; other++ {
				// All nodes before are compared with the next color again.
				if want[other] == want[v] && g.areConnected(v, other) {
					want[v]++
					other = -1
				}
			}
		}
		if got := impl.ColorNodes(g.n, g.edges); !slices.Equal(got, want) {
			t.Errorf("ColorNodes(%v) = %v, want %v", g, got, want)
		}
	}
}

func TestCliquesAndColors(t *testing.T) {
	for _, c := range []struct {
		of     graph
		set    []int
		grown  []int
		best   []int
		colors []int
	}{
		{graph{0, nil}, nil, nil, nil, nil}, {graph{1, nil}, nil, ints(0), ints(0), ints(0)}, {graph{1, nil}, ints(0), ints(0), ints(0), ints(0)}, {graph{2, nil}, ints(1), ints(1), ints(0), ints(0, 0)}, {graph{2, edgesOf(0, 1)}, ints(1), ints(0, 1), ints(0, 1), ints(0, 1)},
		{graph{4, edgesOf(0, 1, 0, 2, 1, 2, 2, 3)}, ints(3), ints(2, 3), ints(0, 1, 2), ints(0, 1, 2, 0)},
		// Of equal size the lexicographically smallest one.
		{graph{4, edgesOf(0, 3, 1, 2)}, nil, ints(0, 3), ints(0, 3), ints(0, 0, 1, 1)}, {graph{4, edgesOf(1, 2, 2, 3)}, nil, ints(0), ints(1, 2), ints(0, 0, 1, 0)}, {graph{6, edgesOf(0, 4, 0, 5, 1, 2, 1, 3, 2, 3, 4, 5)}, nil, ints(0, 4, 5), ints(0, 4, 5), ints(0, 0, 1, 2, 1, 2)}, {graph{5, edgesOf(0, 1, 0, 3, 0, 4, 1, 3, 1, 4)}, ints(4), ints(0, 1, 4), ints(0, 1, 3), ints(0, 1, 0, 2, 2)},
		// The nodes that come first keep out larger cliques.
		{graph{5, edgesOf(0, 4, 1, 2, 1, 3, 1, 4, 2, 3, 2, 4, 3, 4)}, ints(4), ints(0, 4), ints(1, 2, 3, 4), ints(0, 0, 1, 2, 3)}, {graph{4, edgesOf(0, 1, 1, 2, 1, 3, 2, 3)}, ints(1), ints(0, 1), ints(1, 2, 3), ints(0, 1, 0, 2)}, {graph{4, edgesOf(0, 1, 1, 2, 1, 3, 2, 3)}, ints(1, 3), ints(1, 2, 3), ints(1, 2, 3), ints(0, 1, 0, 2)},
		// A smaller color that is free again, and colors of nodes behind that do not matter.
		{graph{4, edgesOf(0, 3, 1, 2)}, ints(2), ints(1, 2), ints(0, 3), ints(0, 0, 1, 1)}, {graph{6, edgesOf(0, 3, 1, 4, 2, 5, 3, 4, 4, 5)}, ints(5), ints(2, 5), ints(0, 3), ints(0, 0, 0, 1, 2, 1)}, {graph{8, allPairs(8)}, nil, ints(0, 1, 2, 3, 4, 5, 6, 7), ints(0, 1, 2, 3, 4, 5, 6, 7), ints(0, 1, 2, 3, 4, 5, 6, 7)}, {graph{8, nil}, ints(7), ints(7), ints(0), make([]int, 8)},
	} {
		if got := impl.GrowClique(c.of.n, c.of.edges, c.set); !slices.Equal(got, c.grown) {
			t.Errorf("GrowClique(%v, %v) = %v, want %v", c.of, c.set, got, c.grown)
		}
		if got := impl.BestClique(c.of.n, c.of.edges); !slices.Equal(got, c.best) {
			t.Errorf("BestClique(%v) = %v, want %v", c.of, got, c.best)
		}
		if got := impl.ColorNodes(c.of.n, c.of.edges); !slices.Equal(got, c.colors) {
			t.Errorf("ColorNodes(%v) = %v, want %v", c.of, got, c.colors)
		}
	}
}

func TestGraphsWithInvalidArguments(t *testing.T) {
	check := func(g graph, set []int) {
		if impl.IsClique(g.n, g.edges, set) {
			t.Errorf("IsClique(%v, %v) = true", g, set)
		}
		if got := impl.GrowClique(g.n, g.edges, set); len(got) != 0 {
			t.Errorf("GrowClique(%v, %v) = %v", g, set, got)
		}
	}
	for _, g := range invalidGraphs() {
		for _, set := range [][]int{nil, {0}, {1}, {0, 1}, {-1}, {100}} {
			check(g, set)
		}
		if got := impl.BestClique(g.n, g.edges); len(got) != 0 {
			t.Errorf("BestClique(%v) = %v", g, got)
		}
		if got := impl.ColorNodes(g.n, g.edges); len(got) != 0 {
			t.Errorf("ColorNodes(%v) = %v", g, got)
		}
	}
	for n := range impl.MaxNodes + 1 {
		for _, set := range append(wrongSets(n), ints(63), ints(64), ints(0, 64), ints(-64)) {
			check(graph{n, allPairs(n)}, set)
		}
	}
	for _, c := range invalidWeights() {
		if got := impl.ConflictEdges(c.weights, c.capacity); len(got) != 0 {
			t.Errorf("ConflictEdges(%v) = %v", c, got)
		}
	}
}

func TestP84TwoItemsInConflictAreACover(t *testing.T) {
	for _, c := range validLoads() {
		if len(c.weights) > impl.MaxNodes {
			continue
		}
		edges := impl.ConflictEdges(c.weights, c.capacity)
		for _, e := range allPairs(len(c.weights)) {
			if cover := impl.IsCover(c.weights, c.capacity, ints(e.A, e.B)); cover != slices.Contains(edges, e) {
				t.Errorf("ConflictEdges(%v) = %v, but IsCover of %v is %t", c, edges, e, cover)
			}
		}
		if !impl.IsClique(len(c.weights), edges, nil) {
			t.Errorf("ConflictEdges(%v) = %v, which are not valid", c, edges)
		}
	}
}

func TestP85OnlyOneItemOfACliqueFits(t *testing.T) {
	several := 0
	for _, c := range validLoads() {
		n := len(c.weights)
		if n > impl.MaxNodes {
			continue
		}
		clique := impl.BestClique(n, impl.ConflictEdges(c.weights, c.capacity))
		values := make([]int, n)
		for _, i := range clique {
			values[i] = 1
		}
		if list, best := impl.BestKnapsack(values, c.weights, c.capacity); !within(best, 0, 1) {
			t.Errorf("BestClique of the conflicts of %v is %v, but %v have %d items of it", c, clique, list, best)
		}
		if len(clique) > 1 {
			several++
		}
	}
	if several < 50 {
		t.Errorf("only %d cliques", several)
	}
}

func TestP86CliquesStayCliques(t *testing.T) {
	for _, g := range validGraphs() {
		for _, set := range subsets(g.n) {
			if !impl.IsClique(g.n, g.edges, set) {
				continue
			}
			for i := range set {
				if !impl.IsClique(g.n, g.edges, minusOne(set, i)) {
					t.Errorf("%v are a clique of %v, but not without %d", set, g, set[i])
				}
			}
		}
	}
}

func TestP87GrownCliquesCannotGrow(t *testing.T) {
	grown := 0
	for _, g := range validGraphs() {
		for _, set := range g.cliques() {
			clique := impl.GrowClique(g.n, g.edges, set)
			if !impl.IsClique(g.n, g.edges, clique) || !slices.Equal(impl.GrowClique(g.n, g.edges, clique), clique) {
				t.Errorf("GrowClique(%v, %v) = %v, which is no clique, or grows", g, set, clique)
			}
			for _, v := range set {
				if !slices.Contains(clique, v) {
					t.Errorf("GrowClique(%v, %v) = %v", g, set, clique)
				}
			}
			if len(clique) > len(set) {
				grown++
			}
		}
	}
	if grown < 1000 {
		t.Errorf("only %d cliques grow", grown)
	}
}

func TestP88NoCliqueIsLarger(t *testing.T) {
	for _, g := range validGraphs() {
		best := impl.BestClique(g.n, g.edges)
		if !impl.IsClique(g.n, g.edges, best) {
			t.Errorf("BestClique(%v) = %v, which is none", g, best)
		}
		for v := range g.n {
			if clique := impl.GrowClique(g.n, g.edges, ints(v)); len(clique) > len(best) || len(clique) == 0 {
				t.Errorf("BestClique(%v) = %v, but GrowClique of %d is %v", g, best, v, clique)
			}
		}
	}
}

func TestP89ConnectedNodesHaveDifferentColors(t *testing.T) {
	for _, g := range validGraphs() {
		colors := impl.ColorNodes(g.n, g.edges)
		if len(colors) != g.n {
			t.Fatalf("ColorNodes(%v) = %v", g, colors)
		}
		for v, color := range colors {
			missing := make([]bool, color)
			for other := range colors {
				switch {
				case !g.areConnected(v, other):
				case colors[other] == color:
					t.Errorf("ColorNodes(%v) = %v, but %d and %d are connected", g, colors, v, other)
				case colors[other] < color:
					missing[colors[other]] = true
				}
			}
			if slices.Contains(missing, false) {
				t.Errorf("ColorNodes(%v) = %v, but %d can have a smaller color", g, colors, v)
			}
		}
	}
}

func TestP90CliquesNeedColors(t *testing.T) {
	more := 0
	for _, g := range validGraphs() {
		greatest := slices.Max(append(impl.ColorNodes(g.n, g.edges), -1))
		best := impl.BestClique(g.n, g.edges)
		if greatest+1 < len(best) {
			t.Errorf("the colors of %v end with %d, but BestClique is %v", g, greatest, best)
		}
		if greatest+1 > len(best) {
			more++
		}
	}
	if more == 0 {
		t.Error("no graph needs more colors than its cliques")
	}
}

func TestGraphsAreNotChangedAndNotShared(t *testing.T) {
	for _, g := range append(validGraphs(), invalidGraphs()...) {
		edges, set, weights := spareEdges(g.edges), spare(ints(0)[:min(1, max(0, g.n))]), spare(slices.Repeat(ints(9), min(8, max(0, g.n))))
		checkMemory(t, "a function of chapter 14", []any{edges, set, weights}, func() []any {
			conflicts, grown := impl.ConflictEdges(weights, 10), impl.GrowClique(g.n, edges, set)
			return []any{conflicts, impl.IsClique(g.n, edges, set), grown, impl.BestClique(g.n, edges), impl.ColorNodes(g.n, edges)}
		})
	}
}
