package tests

import (
	"math/rand"
	"slices"
	"testing"

	"loop.example/integerplanner/impl"
)

// net has the arguments of MaxFlow.
type net struct {
	n    int
	arcs []impl.Arc
	s, t int
}

// forest has a number of nodes and links.
type forest struct {
	n     int
	links []impl.Link
}

// arcs returns the arcs of triples of numbers.
func arcs(triples ...int) []impl.Arc {
	var list []impl.Arc
	for i := 0; i < len(triples); i += 3 {
		list = append(list, impl.Arc{From: triples[i], To: triples[i+1], Cap: triples[i+2]})
	}
	return list
}

// links returns the links of triples of numbers.
func links(triples ...int) []impl.Link {
	var list []impl.Link
	for i := 0; i < len(triples); i += 3 {
		list = append(list, impl.Link{A: triples[i], B: triples[i+1], Cost: triples[i+2]})
	}
	return list
}

// spareArcs returns a copy of arcs with marks in its spare capacity.
func spareArcs(list []impl.Arc) []impl.Arc {
	long := slices.Concat(list, arcs(mark, mark, mark, mark, mark, mark))
	return long[:len(list)]
}

// spareLinks returns a copy of links with marks in its spare capacity.
func spareLinks(list []impl.Link) []impl.Link {
	long := slices.Concat(list, links(mark, mark, mark, mark, mark, mark))
	return long[:len(list)]
}

// twoNodes returns two different numbers in 0..n-1.
func twoNodes(r *rand.Rand, n int) (int, int) {
	a, b := r.Intn(n), r.Intn(n-1)
	if b >= a {
		b++
	}
	return a, b
}

// edgeNets returns networks at the limits, that do not connect, with arcs in both directions, with several arcs between
// the same nodes, and with arcs into s and out of t.
func edgeNets() []net {
	list := []net{
		{2, nil, 0, 1}, {2, nil, 1, 0}, {8, nil, 7, 0}, {2, arcs(0, 1, 0), 0, 1}, {2, arcs(0, 1, 99), 0, 1}, {2, arcs(0, 1, 99), 1, 0}, {2, slices.Repeat(arcs(0, 1, 99), 12), 0, 1}, {2, slices.Repeat(arcs(0, 1, 99), 12), 1, 0}, {2, slices.Repeat(arcs(0, 1, 5, 1, 0, 7), 6), 0, 1},
		{4, arcs(0, 1, 4, 0, 2, 3, 1, 3, 2, 2, 3, 5, 1, 2, 1), 0, 3}, {3, arcs(0, 1, 5, 1, 0, 5, 1, 2, 3, 2, 1, 3), 0, 2}, {3, arcs(0, 1, 5, 1, 0, 5, 1, 2, 3, 2, 1, 3), 2, 0}, {4, arcs(0, 1, 5, 1, 2, 4, 2, 0, 3, 2, 3, 2, 3, 1, 9), 0, 3}, {3, arcs(1, 0, 5, 2, 1, 5), 0, 2}, {4, arcs(0, 1, 5, 2, 3, 5), 0, 3}, {4, arcs(0, 1, 5, 2, 1, 5, 2, 3, 5), 0, 3},
		// A path that is found first must be taken back in part.
		{4, arcs(0, 1, 1, 1, 2, 1, 2, 3, 1, 0, 2, 1, 1, 3, 1), 0, 3}, {6, arcs(0, 1, 1, 1, 2, 1, 2, 5, 1, 0, 3, 1, 3, 2, 1, 1, 4, 1, 4, 5, 1), 0, 5}, {8, arcs(0, 1, 9, 1, 2, 9, 2, 7, 9, 0, 3, 9, 3, 4, 9, 4, 2, 9, 1, 5, 9, 5, 6, 9, 6, 7, 9), 0, 7},
		// What flows along an arc in two parts must be taken back together, or in part.
		{7, arcs(0, 2, 3, 4, 1, 2, 4, 5, 2, 0, 5, 2, 0, 4, 2, 1, 3, 1, 5, 3, 4, 2, 6, 3, 1, 3, 2, 6, 1, 3), 0, 3}, {8, arcs(0, 2, 3, 4, 1, 2, 4, 5, 1, 0, 5, 2, 6, 3, 2, 0, 4, 2, 1, 7, 1, 5, 7, 3, 2, 6, 3, 1, 7, 2, 1, 3, 1, 6, 1, 3), 0, 7},
		// Of the least cuts some are larger.
		{4, arcs(0, 1, 3, 1, 2, 3, 2, 3, 3), 0, 3}, {4, arcs(0, 1, 4, 1, 2, 3, 2, 3, 3), 0, 3}, {4, arcs(0, 1, 5, 1, 2, 4, 2, 3, 3), 0, 3}, {5, arcs(0, 1, 2, 0, 2, 2, 1, 3, 2, 2, 3, 2, 3, 4, 4), 0, 4}, {5, arcs(0, 1, 3, 0, 2, 2, 1, 3, 2, 2, 3, 3, 3, 4, 4), 0, 4}, {4, arcs(0, 1, 0, 1, 3, 5, 0, 2, 0), 0, 3}, {4, arcs(3, 2, 3, 2, 1, 3, 1, 0, 3), 3, 0},
	}
	for n := 2; n <= impl.MaxNodes; n++ {
		var line, ring []impl.Arc
		for v := range n - 1 {
			line = append(line, impl.Arc{From: v, To: v + 1, Cap: 9 - v})
			ring = append(ring, impl.Arc{From: v, To: v + 1, Cap: impl.MaxBound})
		}
		ring = append(ring, impl.Arc{From: n - 1, To: 0, Cap: impl.MaxBound})
		list = append(list, net{n, line, 0, n - 1}, net{n, line, n - 1, 0}, net{n, ring, 0, n - 1}, net{n, ring, n - 1, 0}, net{n, ring, n / 2, 0})
	}
	return list
}

// validNets returns networks with all numbers of nodes and arcs.
func validNets() []net {
	list := edgeNets()
	r := numbers()
	for k := range 700 {
		// Networks with few nodes connect more often.
		c := net{n: 2 + k%[]int{impl.MaxNodes - 1, 3}[r.Intn(2)]}
		c.s, c.t = twoNodes(r, c.n)
		most := []int{1, 2, 9, impl.MaxBound}[r.Intn(4)]
		for range min(impl.MaxArcs, r.Intn(impl.MaxArcs+6)) {
			from, to := twoNodes(r, c.n)
			c.arcs = append(c.arcs, impl.Arc{From: from, To: to, Cap: r.Intn(most + 1)})
		}
		list = append(list, c)
	}
	return list
}

// invalidNets returns networks with one fault each.
func invalidNets() []net {
	base := arcs(0, 1, 4, 1, 2, 3, 2, 3, 5, 3, 0, 7)
	list := []net{{2, slices.Repeat(arcs(0, 1, 1), impl.MaxArcs+1), 0, 1}, {2, slices.Repeat(arcs(0, 1, 1), 1000), 0, 1}}
	for _, n := range []int{-1, 0, 1, impl.MaxNodes + 1, 64, greatestInt, leastInt} {
		list = append(list, net{n, nil, 0, 1}, net{n, base, 0, 1}, net{n, nil, 0, 0})
	}
	for _, v := range []int{-1, 4, 8, 64, greatestInt, leastInt} {
		list = append(list, net{4, base, v, 1}, net{4, base, 1, v}, net{4, nil, v, 1}, net{4, nil, 1, v}, net{4, base, v, v})
		for at := range base {
			from, to := slices.Clone(base), slices.Clone(base)
			from[at].From, to[at].To = v, v
			list = append(list, net{4, from, 0, 3}, net{4, to, 0, 3})
		}
	}
	for v := range 4 {
		list = append(list, net{4, base, v, v}, net{4, nil, v, v}, net{4, arcs(v, v, 1), 0, 3}, net{4, append(slices.Clone(base), impl.Arc{From: v, To: v}), 0, 3}, net{v, base, 0, 1})
	}
	for at := range base {
		for _, v := range []int{-1, impl.MaxBound + 1, greatestInt, leastInt} {
			wrong := slices.Clone(base)
			wrong[at].Cap = v
			list = append(list, net{4, wrong, 0, 3})
		}
	}
	return list
}

// caps returns the capacities of arcs.
func caps(list []impl.Arc) []int {
	var all []int
	for _, a := range list {
		all = append(all, a.Cap)
	}
	return all
}

// pathOf returns a path from s to t along which 1 more can flow: the places of its arcs, and -1 minus the place for those
// along which flow is taken back; nil if there is none.
func pathOf(c net, flow []int, s int, t int) []int {
	paths := map[int][]int{s: {}}
	for range c.n {
		for i, a := range c.arcs {
			from, some := paths[a.From]
			to, other := paths[a.To]
			switch {
			case some && !other && flow[i] < a.Cap:
				paths[a.To] = append(slices.Clone(from), i)
			case other && !some && flow[i] > 0:
				paths[a.From] = append(slices.Clone(to), -1-i)
			}
		}
	}
	return paths[t]
}

// pushed returns a flow with 1 more along a path of pathOf.
func pushed(flow []int, path []int) []int {
	more := slices.Clone(flow)
	for _, i := range path {
		if i >= 0 {
			more[i]++
		} else {
			more[-1-i]--
		}
	}
	return more
}

// flowsOf returns flows of a network: from s to t and back, up to the greatest ones, some of which go around in cycles
// or come back to s.
func flowsOf(r *rand.Rand, c net) [][]int {
	flow := make([]int, len(c.arcs))
	list := [][]int{slices.Clone(flow)}
	for _, ends := range [][]int{{c.s, c.t}, {c.t, c.s}} {
		for path := pathOf(c, flow, ends[0], ends[1]); len(path) > 0; path = pathOf(c, flow, ends[0], ends[1]) {
			flow = pushed(flow, path)
			if r.Intn(8) == 0 || len(list) < 20 {
				list = append(list, flow)
			}
		}
		list = append(list, flow)
	}
	for i, a := range c.arcs {
		if flow[i] < a.Cap {
			// An arc and a path back from its end are a cycle.
			back := pathOf(c, changed(flow, i, a.Cap), a.To, a.From)
			if len(back) > 0 && !slices.Contains(back, -1-i) {
				flow = pushed(flow, append(back, i))
				list = append(list, flow)
			}
		}
	}
	return list
}

// nearFlows returns lists that differ from a flow of a network in one number.
func nearFlows(c net, flow []int) [][]int {
	var list [][]int
	for i, a := range c.arcs {
		for _, v := range []int{-1, flow[i] - 1, flow[i] + 1, a.Cap, a.Cap + 1} {
			list = append(list, changed(flow, i, v))
		}
	}
	return list
}

// wantFlow returns what FlowValue returns for a valid network and one number for each arc.
func wantFlow(c net, flow []int) (int, bool) {
	value := 0
	for v := range c.n {
		out, in := 0, 0
		for i, a := range c.arcs {
			if !within(flow[i], 0, a.Cap) {
				return 0, false
			}
			if a.From == v {
				out += flow[i]
			}
			if a.To == v {
				in += flow[i]
			}
		}
		if v == c.s {
			value = out - in
		}
		if v != c.s && v != c.t && out != in {
			return 0, false
		}
	}
	return value, true
}

// cutsOf returns all sets of nodes with s and without t.
func cutsOf(c net) [][]int {
	var list [][]int
	for _, set := range subsets(c.n) {
		if slices.Contains(set, c.s) && !slices.Contains(set, c.t) {
			list = append(list, set)
		}
	}
	return list
}

// wantCapacity returns what CutCapacity returns for a valid network and a set with s and without t.
func wantCapacity(c net, set []int) int {
	sum := 0
	for _, from := range set {
		for _, a := range c.arcs {
			if a.From == from && slices.Index(set, a.To) < 0 {
				sum += a.Cap
			}
		}
	}
	return sum
}

// wantCut returns what MinCut and MaxFlow return for a valid network: no cut is smaller than the first one, and no flow
// greater than its capacity.
func wantCut(c net) ([]int, int) {
	var best []int
	least := -1
	for _, set := range cutsOf(c) {
		if sum := wantCapacity(c, set); least < 0 || sum < least || sum == least && len(set) < len(best) {
			best, least = set, sum
		}
	}
	return best, least
}

func TestLimitsOfNetworks(t *testing.T) {
	if impl.MaxArcs != 12 {
		t.Error("the limit is wrong")
	}
}

func TestFlowValue(t *testing.T) {
	r := numbers()
	flows, back, not := 0, 0, 0
	for _, c := range validNets() {
		for _, flow := range flowsOf(r, c) {
			for _, list := range append(nearFlows(c, flow), flow) {
				want, ok := wantFlow(c, list)
				if got, done := impl.FlowValue(c.n, c.arcs, c.s, c.t, list); got != want || done != ok {
					t.Errorf("FlowValue(%v, %v) = %d, %t, want %d, %t", c, list, got, done, want, ok)
				}
				switch {
				case !ok:
					not++
				case want < 0:
					back++
				case want > 0:
					flows++
				}
			}
		}
	}
	if flows < 1000 || back < 100 || not < 1000 {
		t.Errorf("%d flows lead to t, %d to s, and %d are none", flows, back, not)
	}
}

func TestFlows(t *testing.T) {
	four := arcs(0, 1, 4, 0, 2, 3, 1, 3, 2, 2, 3, 5, 1, 2, 1)
	both := arcs(0, 1, 5, 1, 0, 5, 1, 2, 3, 2, 1, 3)
	ring := arcs(0, 1, 5, 1, 2, 4, 2, 0, 3, 2, 3, 2, 3, 1, 9)
	for _, c := range []struct {
		of   net
		flow []int
		want int
		ok   bool
	}{
		{net{2, nil, 0, 1}, nil, 0, true}, {net{8, nil, 7, 0}, ints(), 0, true}, {net{2, nil, 0, 1}, ints(0), 0, false}, {net{2, arcs(0, 1, 0), 0, 1}, ints(0), 0, true}, {net{2, arcs(0, 1, 0), 0, 1}, ints(1), 0, false},
		{net{4, four, 0, 3}, ints(3, 3, 2, 4, 1), 6, true}, {net{4, four, 0, 3}, ints(3, 3, 2, 3, 1), 0, false}, {net{4, four, 0, 3}, ints(3, 3, 2, 3, 0), 0, false}, {net{4, four, 0, 3}, ints(2, 3, 2, 3, 0), 5, true}, {net{4, four, 0, 3}, ints(0, 0, 0, 0, 0), 0, true}, {net{4, four, 0, 3}, ints(0, 3, 0, 3, 0), 3, true}, {net{4, four, 0, 3}, ints(0, 4, 0, 4, 0), 0, false}, {net{4, four, 0, 3}, ints(-1, 0, -1, 0, 0), 0, false}, {net{4, four, 0, 3}, ints(3, 3, 1, 5, 2), 0, false}, {net{4, four, 3, 0}, ints(3, 3, 2, 4, 1), -6, true},
		// More leaves than enters, or less, only at s and t.
		{net{4, four, 1, 3}, ints(0, 0, 2, 1, 1), 3, true}, {net{4, four, 1, 2}, ints(0, 0, 0, 0, 1), 1, true}, {net{4, four, 0, 3}, ints(0, 0, 0, 0, 1), 0, false}, {net{4, four, 0, 3}, ints(1, 0, 0, 0, 0), 0, false}, {net{4, four, 0, 3}, ints(0, 0, 1, 0, 0), 0, false},
		// Arcs in both directions, and several ones between the same nodes.
		{net{3, both, 0, 2}, ints(5, 2, 3, 0), 3, true}, {net{3, both, 0, 2}, ints(5, 5, 3, 3), 0, true}, {net{3, both, 0, 2}, ints(5, 5, 0, 0), 0, true}, {net{3, both, 0, 2}, ints(0, 0, 2, 2), 0, true}, {net{3, both, 0, 2}, ints(2, 5, 0, 3), -3, true}, {net{3, both, 0, 2}, ints(5, 1, 3, 0), 0, false}, {net{3, both, 2, 0}, ints(2, 5, 0, 3), 3, true}, {net{2, arcs(0, 1, 3, 0, 1, 3, 1, 0, 4), 0, 1}, ints(3, 2, 4), 1, true}, {net{2, arcs(0, 1, 3, 0, 1, 3, 1, 0, 4), 0, 1}, ints(3, 3, 0), 6, true}, {net{2, arcs(0, 1, 3, 0, 1, 3, 1, 0, 4), 0, 1}, ints(0, 0, 4), -4, true}, {net{2, arcs(0, 1, 3, 0, 1, 3, 1, 0, 4), 0, 1}, ints(0, 4, 4), 0, false},
		// What comes back to s does not count, nor what goes around elsewhere.
		{net{4, ring, 0, 3}, ints(3, 3, 3, 0, 0), 0, true}, {net{4, ring, 0, 3}, ints(4, 4, 3, 1, 0), 1, true}, {net{4, ring, 0, 3}, ints(0, 2, 0, 2, 2), 0, true}, {net{4, ring, 0, 3}, ints(2, 4, 2, 2, 2), 0, true}, {net{4, ring, 0, 3}, ints(3, 4, 2, 2, 1), 1, true}, {net{4, ring, 0, 1}, ints(3, 3, 3, 0, 0), 0, true}, {net{4, ring, 0, 1}, ints(0, 3, 3, 0, 0), -3, true},
		{net{2, slices.Repeat(arcs(0, 1, 99), 12), 0, 1}, slices.Repeat(ints(99), 12), 1188, true}, {net{2, slices.Repeat(arcs(0, 1, 99), 12), 1, 0}, slices.Repeat(ints(99), 12), -1188, true}, {net{2, slices.Repeat(arcs(0, 1, 99), 13), 0, 1}, make([]int, 13), 0, false}, {net{2, arcs(0, 1, 100), 0, 1}, ints(0), 0, false}, {net{2, arcs(0, 1, 9), 0, 0}, ints(0), 0, false}, {net{9, nil, 0, 1}, nil, 0, false}, {net{1, nil, 0, 1}, nil, 0, false},
		{net{4, four, 0, 3}, ints(0, 0, 0, 0), 0, false}, {net{4, four, 0, 3}, ints(0, 0, 0, 0, 0, 0), 0, false}, {net{4, four, 0, 3}, nil, 0, false}, {net{2, arcs(0, 1, 9, 0, 1, 9), 0, 1}, ints(leastInt, leastInt), 0, false}, {net{2, arcs(0, 1, 9, 0, 1, 9), 0, 1}, ints(greatestInt, greatestInt), 0, false},
	} {
		if got, ok := impl.FlowValue(c.of.n, c.of.arcs, c.of.s, c.of.t, c.flow); got != c.want || ok != c.ok {
			t.Errorf("FlowValue(%v, %v) = %d, %t, want %d, %t", c.of, c.flow, got, ok, c.want, c.ok)
		}
	}
}

func TestMaxFlowAndMinCut(t *testing.T) {
	many, large := 0, 0
	for _, c := range validNets() {
		cut, value := wantCut(c)
		if got := impl.MaxFlow(c.n, c.arcs, c.s, c.t); got != value {
			t.Errorf("MaxFlow(%v) = %d, want %d", c, got, value)
		}
		if got := impl.MinCut(c.n, c.arcs, c.s, c.t); !slices.Equal(got, cut) {
			t.Errorf("MinCut(%v) = %v, want %v", c, got, cut)
		}
		if value > 0 {
			many++
		}
		if len(cut) > 1 && value > 0 {
			large++
		}
	}
	if many < 100 || large < 50 {
		t.Errorf("%d networks have a flow, and %d of them a larger cut", many, large)
	}
}

func TestMaxFlowsOfNetworks(t *testing.T) {
	for _, c := range []struct {
		of   net
		want int
		cut  []int
	}{
		{net{2, nil, 0, 1}, 0, ints(0)}, {net{2, nil, 1, 0}, 0, ints(1)}, {net{8, nil, 7, 0}, 0, ints(7)}, {net{2, arcs(0, 1, 0), 0, 1}, 0, ints(0)}, {net{2, arcs(0, 1, 99), 0, 1}, 99, ints(0)}, {net{2, arcs(0, 1, 99), 1, 0}, 0, ints(1)}, {net{2, slices.Repeat(arcs(0, 1, 99), 12), 0, 1}, 1188, ints(0)}, {net{2, slices.Repeat(arcs(0, 1, 99), 13), 0, 1}, -1, nil},
		{net{4, arcs(0, 1, 4, 0, 2, 3, 1, 3, 2, 2, 3, 5, 1, 2, 1), 0, 3}, 6, ints(0, 1)},
		// Arcs in both directions between two nodes, and several ones between the same nodes.
		{net{3, arcs(0, 1, 5, 1, 0, 5, 1, 2, 3, 2, 1, 3), 0, 2}, 3, ints(0, 1)}, {net{3, arcs(0, 1, 5, 1, 0, 5, 1, 2, 3, 2, 1, 3), 2, 0}, 3, ints(2)}, {net{2, arcs(0, 1, 3, 1, 0, 4, 0, 1, 2), 0, 1}, 5, ints(0)}, {net{2, arcs(0, 1, 3, 1, 0, 4, 0, 1, 2), 1, 0}, 4, ints(1)}, {net{3, arcs(0, 1, 9, 1, 2, 2, 1, 2, 3, 2, 1, 7, 1, 0, 7), 0, 2}, 5, ints(0, 1)},
		// What comes back to s is of no use.
		{net{3, arcs(0, 1, 9, 1, 0, 9), 0, 2}, 0, ints(0, 1)}, {net{4, arcs(0, 1, 9, 1, 2, 9, 2, 0, 9, 2, 3, 4), 0, 3}, 4, ints(0, 1, 2)}, {net{3, arcs(2, 0, 9, 0, 1, 3, 1, 2, 9), 0, 2}, 3, ints(0)},
		// What does not connect, or only against the arcs, or by an arc without capacity.
		{net{4, arcs(0, 1, 5, 2, 3, 5), 0, 3}, 0, ints(0, 1)}, {net{4, arcs(0, 1, 5, 2, 1, 5, 2, 3, 5), 0, 3}, 0, ints(0, 1)}, {net{3, arcs(1, 0, 5, 2, 1, 5), 0, 2}, 0, ints(0)}, {net{4, arcs(0, 1, 0, 1, 3, 5, 0, 2, 1), 0, 3}, 0, ints(0, 2)}, {net{5, arcs(0, 2, 3, 2, 1, 3, 3, 4, 9, 4, 3, 9), 0, 4}, 0, ints(0, 1, 2)},
		// A path that is found first must be taken back in part.
		{net{4, arcs(0, 1, 1, 1, 2, 1, 2, 3, 1, 0, 2, 1, 1, 3, 1), 0, 3}, 2, ints(0)}, {net{6, arcs(0, 1, 1, 1, 2, 1, 2, 5, 1, 0, 3, 1, 3, 2, 1, 1, 4, 1, 4, 5, 1), 0, 5}, 2, ints(0)}, {net{8, arcs(0, 1, 9, 1, 2, 9, 2, 7, 9, 0, 3, 9, 3, 4, 9, 4, 2, 9, 1, 5, 9, 5, 6, 9, 6, 7, 9), 0, 7}, 18, ints(0)},
		{net{7, arcs(0, 2, 3, 4, 1, 2, 4, 5, 2, 0, 5, 2, 0, 4, 2, 1, 3, 1, 5, 3, 4, 2, 6, 3, 1, 3, 2, 6, 1, 3), 0, 3}, 7, ints(0)}, {net{8, arcs(0, 2, 3, 4, 1, 2, 4, 5, 1, 0, 5, 2, 6, 3, 2, 0, 4, 2, 1, 7, 1, 5, 7, 3, 2, 6, 3, 1, 7, 2, 1, 3, 1, 6, 1, 3), 0, 7}, 6, ints(0, 1, 2, 3, 4, 6)},
		// Of the cuts of the least capacity the smallest one.
		{net{4, arcs(0, 1, 3, 1, 2, 3, 2, 3, 3), 0, 3}, 3, ints(0)}, {net{4, arcs(0, 1, 4, 1, 2, 3, 2, 3, 3), 0, 3}, 3, ints(0, 1)}, {net{4, arcs(0, 1, 5, 1, 2, 4, 2, 3, 3), 0, 3}, 3, ints(0, 1, 2)}, {net{4, arcs(3, 2, 3, 2, 1, 3, 1, 0, 3), 3, 0}, 3, ints(3)}, {net{4, arcs(3, 2, 4, 2, 1, 3, 1, 0, 3), 3, 0}, 3, ints(2, 3)}, {net{5, arcs(0, 1, 2, 0, 2, 2, 1, 3, 2, 2, 3, 2, 3, 4, 4), 0, 4}, 4, ints(0)}, {net{5, arcs(0, 1, 3, 0, 2, 2, 1, 3, 2, 2, 3, 3, 3, 4, 4), 0, 4}, 4, ints(0, 1)}, {net{3, arcs(0, 2, 5, 0, 1, 9), 0, 2}, 5, ints(0, 1)},
		{net{1, nil, 0, 1}, -1, nil}, {net{9, nil, 0, 1}, -1, nil}, {net{2, nil, 0, 0}, -1, nil}, {net{2, nil, 0, 2}, -1, nil}, {net{2, arcs(0, 1, 100), 0, 1}, -1, nil}, {net{2, arcs(0, 1, -1), 0, 1}, -1, nil}, {net{2, arcs(0, 0, 1), 0, 1}, -1, nil}, {net{2, arcs(0, 2, 1), 0, 1}, -1, nil},
	} {
		if got := impl.MaxFlow(c.of.n, c.of.arcs, c.of.s, c.of.t); got != c.want {
			t.Errorf("MaxFlow(%v) = %d, want %d", c.of, got, c.want)
		}
		if got := impl.MinCut(c.of.n, c.of.arcs, c.of.s, c.of.t); !slices.Equal(got, c.cut) {
			t.Errorf("MinCut(%v) = %v, want %v", c.of, got, c.cut)
		}
	}
}

func TestCutCapacity(t *testing.T) {
	for _, c := range validNets() {
		for _, set := range subsets(c.n) {
			want := -1
			if slices.Contains(set, c.s) && !slices.Contains(set, c.t) {
				want = wantCapacity(c, set)
			}
			if got := impl.CutCapacity(c.n, c.arcs, c.s, c.t, set); got != want {
				t.Errorf("CutCapacity(%v, %v) = %d, want %d", c, set, got, want)
			}
		}
	}
}

func TestCuts(t *testing.T) {
	four := net{4, arcs(0, 1, 4, 0, 2, 3, 1, 3, 2, 2, 3, 5, 1, 2, 1, 3, 0, 50, 2, 1, 60), 0, 3}
	for _, c := range []struct {
		of   net
		set  []int
		want int
	}{
		{net{2, nil, 0, 1}, ints(0), 0}, {net{2, nil, 1, 0}, ints(1), 0}, {net{2, slices.Repeat(arcs(0, 1, 99), 12), 0, 1}, ints(0), 1188}, {net{2, slices.Repeat(arcs(0, 1, 99), 12), 1, 0}, ints(1), 0}, {net{2, arcs(0, 1, 3, 1, 0, 4, 0, 1, 2), 0, 1}, ints(0), 5}, {net{2, arcs(0, 1, 3, 1, 0, 4, 0, 1, 2), 1, 0}, ints(1), 4},
		{four, ints(0), 7}, {four, ints(0, 1), 6}, {four, ints(0, 2), 69}, {four, ints(0, 1, 2), 7},
		// Without s, with t, or with both or none of them.
		{four, ints(1), -1}, {four, ints(1, 2), -1}, {four, ints(0, 3), -1}, {four, ints(0, 1, 2, 3), -1}, {four, ints(3), -1}, {four, nil, -1}, {four, ints(1, 3), -1},
		{four, ints(1, 0), -1}, {four, ints(0, 0), -1}, {four, ints(0, 4), -1}, {four, ints(-1, 0), -1}, {four, ints(0, 2, 1), -1},
		{net{2, arcs(0, 1, 100), 0, 1}, ints(0), -1}, {net{2, nil, 0, 0}, ints(0), -1}, {net{1, nil, 0, 1}, ints(0), -1}, {net{9, nil, 0, 1}, ints(0), -1}, {net{2, slices.Repeat(arcs(0, 1, 1), 13), 0, 1}, ints(0), -1},
	} {
		if got := impl.CutCapacity(c.of.n, c.of.arcs, c.of.s, c.of.t, c.set); got != c.want {
			t.Errorf("CutCapacity(%v, %v) = %d, want %d", c.of, c.set, got, c.want)
		}
	}
}

func TestNetworksWithInvalidArguments(t *testing.T) {
	checkFlow := func(c net, flow []int) {
		if got, ok := impl.FlowValue(c.n, c.arcs, c.s, c.t, flow); ok || got != 0 {
			t.Errorf("FlowValue(%v, %v) = %d, %t", c, flow, got, ok)
		}
	}
	checkCut := func(c net, set []int) {
		if got := impl.CutCapacity(c.n, c.arcs, c.s, c.t, set); got != -1 {
			t.Errorf("CutCapacity(%v, %v) = %d", c, set, got)
		}
	}
	for _, c := range invalidNets() {
		checkFlow(c, make([]int, len(c.arcs)))
		checkFlow(c, caps(c.arcs))
		checkFlow(c, nil)
		for _, set := range [][]int{nil, {0}, {1}, {0, 1}, {0, 1, 2}, {c.s}, {100}} {
			checkCut(c, set)
		}
		if got := impl.MaxFlow(c.n, c.arcs, c.s, c.t); got != -1 {
			t.Errorf("MaxFlow(%v) = %d", c, got)
		}
		if got := impl.MinCut(c.n, c.arcs, c.s, c.t); len(got) != 0 {
			t.Errorf("MinCut(%v) = %v", c, got)
		}
	}
	for n := 2; n <= impl.MaxNodes; n++ {
		for _, set := range append(wrongSets(n), ints(63), ints(64), ints(0, 64), ints(0, n)) {
			checkCut(net{n, nil, 0, n - 1}, set)
		}
		for size := range 4 {
			c := net{n, slices.Repeat(arcs(0, n-1, 5), size), 0, n - 1}
			checkFlow(c, make([]int, size+1))
			checkFlow(c, make([]int, size+1000))
			if size > 0 {
				checkFlow(c, make([]int, size-1))
			}
			for at := range size {
				for _, v := range []int{-1, 6, greatestInt, leastInt} {
					checkFlow(c, changed(make([]int, size), at, v))
				}
			}
		}
	}
}

// edgeForests returns links at the limits, that do not connect, with several links between the same nodes, and of the
// same cost.
func edgeForests() []forest {
	list := []forest{
		{1, nil}, {2, nil}, {8, nil}, {2, links(0, 1, 0)}, {2, links(1, 0, 99)}, {2, slices.Repeat(links(0, 1, 9), 12)}, {2, links(0, 1, 5, 1, 0, 4, 0, 1, 4, 1, 0, 6)}, {3, slices.Repeat(links(0, 1, 9), 12)}, {3, slices.Repeat(links(0, 1, 9, 2, 1, 9, 0, 2, 9), 4)},
		{4, links(0, 1, 3, 1, 2, 1, 0, 2, 3, 2, 3, 2)}, {4, links(0, 1, 1, 2, 3, 1, 1, 0, 0, 3, 2, 0)}, {4, links(0, 1, 1, 2, 3, 1, 0, 2, 9, 1, 3, 8)}, {6, links(0, 1, 1, 1, 2, 1, 2, 0, 1, 3, 4, 1, 4, 5, 1, 5, 3, 1)}, {6, links(0, 1, 1, 1, 2, 1, 2, 0, 1, 3, 4, 1, 4, 5, 1, 5, 3, 1, 0, 5, 99)},
	}
	for n := 1; n <= impl.MaxNodes; n++ {
		var line, star []impl.Link
		for v := range n - 1 {
			line = append(line, impl.Link{A: v + 1, B: v, Cost: 9 - v})
			star = append(star, impl.Link{A: n - 1, B: v, Cost: impl.MaxCost})
		}
		ring := append(slices.Clone(line), impl.Link{A: 0, B: max(1, n-1), Cost: 5})
		list = append(list, forest{n, line}, forest{n, star})
		if n > 1 {
			list = append(list, forest{n, ring}, forest{n, line[1:]}, forest{n, star[:n-2]})
		}
	}
	return list
}

// validForests returns links with all numbers of nodes and links.
func validForests() []forest {
	list := edgeForests()
	r := numbers()
	for k := range 500 {
		f := forest{n: 2 + k%(impl.MaxNodes-1)}
		most := []int{0, 1, 3, impl.MaxCost}[r.Intn(4)]
		for range min(impl.MaxArcs, r.Intn(impl.MaxArcs+8)) {
			a, b := twoNodes(r, f.n)
			f.links = append(f.links, impl.Link{A: a, B: b, Cost: r.Intn(most + 1)})
		}
		list = append(list, f)
	}
	return list
}

// invalidForests returns links with one fault each.
func invalidForests() []forest {
	base := links(0, 1, 4, 1, 2, 3, 2, 3, 5, 3, 0, 7)
	list := []forest{{2, slices.Repeat(links(0, 1, 1), impl.MaxArcs+1)}, {2, slices.Repeat(links(0, 1, 1), 1000)}, {1, slices.Repeat(links(0, 1, 1), impl.MaxArcs+1)}, {1, links(0, 0, 1)}, {1, links(0, 1, 1)}}
	for _, n := range []int{-1, 0, impl.MaxNodes + 1, 64, greatestInt, leastInt} {
		list = append(list, forest{n, nil}, forest{n, base})
	}
	for at := range base {
		for _, v := range []int{-1, 4, 8, 64, greatestInt, leastInt} {
			a, b := slices.Clone(base), slices.Clone(base)
			a[at].A, b[at].B = v, v
			list = append(list, forest{4, a}, forest{4, b})
		}
		for _, v := range []int{-1, impl.MaxCost + 1, greatestInt, leastInt} {
			wrong := slices.Clone(base)
			wrong[at].Cost = v
			list = append(list, forest{4, wrong})
		}
		same := slices.Clone(base)
		same[at].A = same[at].B
		list = append(list, forest{4, same}, forest{3, base})
	}
	return list
}

// costsOfLinks returns the costs of links.
func costsOfLinks(list []impl.Link) []int {
	var all []int
	for _, l := range list {
		all = append(all, l.Cost)
	}
	return all
}

// connects reports whether some of valid links connect two nodes.
func connects(f forest, chosen []int, a int, b int) bool {
	reached := make([]bool, f.n)
	reached[a] = true
	for range f.n {
		for _, k := range chosen {
			l := f.links[k]
			if reached[l.A] || reached[l.B] {
				reached[l.A], reached[l.B] = true, true
			}
		}
	}
	return reached[b]
}

// connectsAll reports whether some of valid links connect all nodes.
func connectsAll(f forest, chosen []int) bool {
	for v := range f.n {
		if !connects(f, chosen, 0, v) {
			return false
		}
	}
	return true
}

// wantTreeCost returns what TreeCost returns for valid links and numbers of some of them that ascend.
func wantTreeCost(f forest, chosen []int) int {
	if len(chosen) != f.n-1 || !connectsAll(f, chosen) {
		return -1
	}
	return sumOf(costsOfLinks(f.links), chosen)
}

// wantTree returns what BestTree returns for valid links.
func wantTree(f forest) ([]int, int) {
	var chosen []int
	for cost := range impl.MaxCost + 1 {
		for k, l := range f.links {
			if l.Cost == cost && !connects(f, chosen, l.A, l.B) {
				chosen = append(chosen, k)
			}
		}
	}
	if !connectsAll(f, chosen) {
		return nil, -1
	}
	slices.Sort(chosen)
	return chosen, sumOf(costsOfLinks(f.links), chosen)
}

// choicesOfLinks returns the choices of links that may be a tree, and some that have one link more or less.
func choicesOfLinks(f forest) [][]int {
	var list [][]int
	for i, chosen := range subsets(len(f.links)) {
		if size := len(chosen); size == f.n-1 || i%7 == 0 && within(size, f.n-2, f.n) {
			list = append(list, chosen)
		}
	}
	return list
}

func TestTreeCost(t *testing.T) {
	trees, not := 0, 0
	for _, f := range validForests() {
		for _, chosen := range choicesOfLinks(f) {
			want := wantTreeCost(f, chosen)
			if got := impl.TreeCost(f.n, f.links, chosen); got != want {
				t.Errorf("TreeCost(%v, %v) = %d, want %d", f, chosen, got, want)
			}
			if want < 0 {
				not++
			} else {
				trees++
			}
		}
	}
	if trees < 1000 || not < 1000 {
		t.Errorf("%d choices are trees, and %d are not", trees, not)
	}
}

func TestTrees(t *testing.T) {
	four := links(0, 1, 3, 1, 2, 1, 0, 2, 3, 2, 3, 2, 3, 2, 7)
	for _, c := range []struct {
		of     forest
		chosen []int
		want   int
	}{
		{forest{1, nil}, nil, 0}, {forest{1, nil}, ints(), 0}, {forest{1, nil}, ints(0), -1}, {forest{2, nil}, nil, -1}, {forest{2, links(0, 1, 0)}, ints(0), 0}, {forest{2, links(1, 0, 99)}, ints(0), 99}, {forest{2, links(1, 0, 99)}, nil, -1}, {forest{2, links(1, 0, 100)}, ints(0), -1},
		{forest{4, four}, ints(1, 2, 3), 6}, {forest{4, four}, ints(0, 1, 3), 6}, {forest{4, four}, ints(0, 2, 3), 8}, {forest{4, four}, ints(0, 1, 4), 11}, {forest{4, four}, ints(0, 2, 4), 13},
		// A cycle, several links between the same nodes, one link too few, and one too many.
		{forest{4, four}, ints(0, 1, 2), -1}, {forest{4, four}, ints(0, 3, 4), -1}, {forest{4, four}, ints(1, 2), -1}, {forest{4, four}, ints(0, 1, 2, 3), -1}, {forest{4, four}, ints(0, 1, 3, 4), -1}, {forest{4, four}, nil, -1}, {forest{5, four}, ints(0, 1, 2, 3), -1}, {forest{5, four}, ints(0, 1, 3), -1},
		{forest{4, four}, ints(0, 3, 1), -1}, {forest{4, four}, ints(3, 1, 0), -1}, {forest{4, four}, ints(0, 0, 1), -1}, {forest{4, four}, ints(0, 1, 5), -1}, {forest{4, four}, ints(-1, 0, 1), -1}, {forest{4, four}, ints(1, 1, 3), -1},
		{forest{8, links(0, 1, 99, 1, 2, 99, 2, 3, 99, 3, 4, 99, 4, 5, 99, 5, 6, 99, 6, 7, 99)}, ints(0, 1, 2, 3, 4, 5, 6), 693}, {forest{9, links(0, 1, 9, 1, 2, 9, 2, 3, 9, 3, 4, 9, 4, 5, 9, 5, 6, 9, 6, 7, 9, 7, 8, 9)}, ints(0, 1, 2, 3, 4, 5, 6, 7), -1}, {forest{2, slices.Repeat(links(0, 1, 4), 12)}, ints(11), 4}, {forest{2, slices.Repeat(links(0, 1, 4), 12)}, ints(12), -1}, {forest{2, slices.Repeat(links(0, 1, 4), 13)}, ints(11), -1}, {forest{0, nil}, nil, -1}, {forest{1, links(0, 0, 1)}, nil, -1},
	} {
		if got := impl.TreeCost(c.of.n, c.of.links, c.chosen); got != c.want {
			t.Errorf("TreeCost(%v, %v) = %d, want %d", c.of, c.chosen, got, c.want)
		}
	}
}

func TestBestTree(t *testing.T) {
	found, none, replaced := 0, 0, 0
	for _, f := range validForests() {
		want, cost := wantTree(f)
		if got, n := impl.BestTree(f.n, f.links); n != cost || !slices.Equal(got, want) {
			t.Errorf("BestTree(%v) = %v, %d, want %v, %d", f, got, n, want, cost)
		}
		switch {
		case cost < 0:
			none++
		case len(want) < len(f.links):
			found++
		}
		if cost >= 0 && len(want) > 0 && want[len(want)-1] > len(want)-1 {
			replaced++
		}
	}
	if found < 100 || none < 100 || replaced < 50 {
		t.Errorf("%d best trees leave out links, %d do not exist, and %d leave out one before others", found, none, replaced)
	}
}

func TestBestTrees(t *testing.T) {
	for _, c := range []struct {
		of   forest
		want []int
		cost int
	}{
		// One node is connected without links.
		{forest{1, nil}, nil, 0}, {forest{2, nil}, nil, -1}, {forest{8, nil}, nil, -1}, {forest{2, links(0, 1, 0)}, ints(0), 0}, {forest{2, links(1, 0, 99)}, ints(0), 99}, {forest{3, links(1, 0, 99)}, nil, -1},
		{forest{4, links(0, 1, 3, 1, 2, 1, 0, 2, 3, 2, 3, 2)}, ints(0, 1, 3), 6}, {forest{4, links(0, 2, 3, 1, 2, 1, 0, 1, 3, 2, 3, 2)}, ints(0, 1, 3), 6}, {forest{4, links(0, 1, 4, 1, 2, 1, 0, 2, 3, 2, 3, 2)}, ints(1, 2, 3), 6},
		// Of the same cost those that come first, as long as they connect something.
		{forest{3, links(0, 1, 2, 1, 2, 2, 0, 2, 2)}, ints(0, 1), 4}, {forest{3, links(0, 1, 2, 1, 2, 2, 0, 2, 1)}, ints(0, 2), 3}, {forest{3, links(0, 1, 2, 1, 0, 2, 2, 0, 2, 0, 2, 2)}, ints(0, 2), 4}, {forest{2, links(0, 1, 5, 1, 0, 4, 0, 1, 4, 1, 0, 6)}, ints(1), 4}, {forest{2, slices.Repeat(links(0, 1, 9), 12)}, ints(0), 9}, {forest{2, slices.Repeat(links(0, 1, 9), 13)}, nil, -1}, {forest{3, slices.Repeat(links(0, 1, 9), 12)}, nil, -1},
		// Two pieces that are connected by a dear link at last.
		{forest{4, links(0, 1, 1, 2, 3, 1, 0, 2, 9, 1, 3, 8)}, ints(0, 1, 3), 10}, {forest{4, links(0, 1, 1, 2, 3, 1, 1, 0, 0, 3, 2, 0)}, nil, -1}, {forest{6, links(0, 5, 99, 0, 1, 1, 1, 2, 1, 2, 0, 1, 3, 4, 1, 4, 5, 1, 5, 3, 1)}, ints(0, 1, 2, 4, 5), 103}, {forest{6, links(0, 1, 1, 1, 2, 1, 2, 0, 1, 3, 4, 1, 4, 5, 1, 5, 3, 1)}, nil, -1}, {forest{8, links(0, 1, 5, 2, 3, 4, 4, 5, 3, 6, 7, 2, 1, 3, 9, 5, 7, 8, 3, 7, 7, 0, 6, 7)}, ints(0, 1, 2, 3, 5, 6, 7), 36},
		{forest{8, links(0, 1, 99, 1, 2, 99, 2, 3, 99, 3, 4, 99, 4, 5, 99, 5, 6, 99, 6, 7, 99)}, ints(0, 1, 2, 3, 4, 5, 6), 693}, {forest{9, links(0, 1, 9, 1, 2, 9, 2, 3, 9, 3, 4, 9, 4, 5, 9, 5, 6, 9, 6, 7, 9, 7, 8, 9)}, nil, -1}, {forest{0, nil}, nil, -1}, {forest{1, links(0, 0, 1)}, nil, -1}, {forest{2, links(0, 1, 100)}, nil, -1}, {forest{2, links(0, 1, 1, 0, 1, -1)}, nil, -1}, {forest{2, links(0, 1, 1, 0, 2, 1)}, nil, -1},
	} {
		if got, n := impl.BestTree(c.of.n, c.of.links); n != c.cost || !slices.Equal(got, c.want) {
			t.Errorf("BestTree(%v) = %v, %d, want %v, %d", c.of, got, n, c.want, c.cost)
		}
	}
}

func TestTreesWithInvalidArguments(t *testing.T) {
	check := func(f forest, chosen []int) {
		if got := impl.TreeCost(f.n, f.links, chosen); got != -1 {
			t.Errorf("TreeCost(%v, %v) = %d", f, chosen, got)
		}
	}
	for _, f := range invalidForests() {
		for _, chosen := range [][]int{nil, {0}, {1}, {0, 1}, {0, 1, 2}, {0, 1, 2, 3}, {100}} {
			check(f, chosen)
		}
		if got, n := impl.BestTree(f.n, f.links); n != -1 || len(got) != 0 {
			t.Errorf("BestTree(%v) = %v, %d", f, got, n)
		}
	}
	for n := 1; n <= impl.MaxNodes; n++ {
		f := forest{n, nil}
		for v := range n - 1 {
			f.links = append(f.links, impl.Link{A: v, B: n - 1})
		}
		for _, chosen := range wrongSets(len(f.links)) {
			check(f, chosen)
		}
	}
}

func TestP126NoFlowIsGreaterThanTheGreatestOne(t *testing.T) {
	r := numbers()
	greatest := 0
	for _, c := range validNets() {
		most := impl.MaxFlow(c.n, c.arcs, c.s, c.t)
		reached := false
		for _, flow := range flowsOf(r, c) {
			value, ok := impl.FlowValue(c.n, c.arcs, c.s, c.t, flow)
			if !ok || value > most {
				t.Errorf("MaxFlow(%v) = %d, but FlowValue of %v is %d, %t", c, most, flow, value, ok)
			}
			reached = reached || value == most
		}
		if !reached {
			t.Errorf("MaxFlow(%v) = %d, but no flow has this value", c, most)
		}
		if most > 0 {
			greatest++
		}
		if value, ok := impl.FlowValue(c.n, c.arcs, c.s, c.t, make([]int, len(c.arcs))); value != 0 || !ok {
			t.Errorf("FlowValue(%v) = %d, %t where nothing flows", c, value, ok)
		}
		// All numbers for few arcs.
		if all := caps(c.arcs); len(all) <= 5 && slices.Max(append(all, 0)) <= 3 {
			for _, flow := range pointsBetween(make([]int, len(all)), all) {
				if value, ok := impl.FlowValue(c.n, c.arcs, c.s, c.t, flow); ok && value > most {
					t.Errorf("MaxFlow(%v) = %d, but FlowValue of %v is %d", c, most, flow, value)
				}
			}
		}
	}
	if greatest < 100 {
		t.Errorf("only %d networks have a flow", greatest)
	}
}

func TestP127FlowsHaveTwoEnds(t *testing.T) {
	r := numbers()
	for _, c := range validNets() {
		for _, flow := range flowsOf(r, c) {
			value, ok := impl.FlowValue(c.n, c.arcs, c.s, c.t, flow)
			if back, done := impl.FlowValue(c.n, c.arcs, c.t, c.s, flow); back != -value || !done || !ok {
				t.Errorf("FlowValue(%v, %v) = %d, %t, but %d, %t with both ends exchanged", c, flow, value, ok, back, done)
			}
			for _, list := range nearFlows(c, flow) {
				_, ok := impl.FlowValue(c.n, c.arcs, c.s, c.t, list)
				if _, done := impl.FlowValue(c.n, c.arcs, c.t, c.s, list); done != ok {
					t.Errorf("FlowValue(%v, %v) succeeds only in one direction", c, list)
				}
			}
		}
	}
}

func TestP128TheGreatestFlowIsTheSmallestCut(t *testing.T) {
	for _, c := range validNets() {
		cut := impl.MinCut(c.n, c.arcs, c.s, c.t)
		if flow, sum := impl.MaxFlow(c.n, c.arcs, c.s, c.t), impl.CutCapacity(c.n, c.arcs, c.s, c.t, cut); flow != sum || flow < 0 {
			t.Errorf("MaxFlow(%v) = %d, but MinCut is %v with the capacity %d", c, flow, cut, sum)
		}
	}
}

func TestP129NetworksCanBeTurnedAround(t *testing.T) {
	for _, c := range validNets() {
		var turned []impl.Arc
		for _, a := range c.arcs {
			turned = append(turned, impl.Arc{From: a.To, To: a.From, Cap: a.Cap})
		}
		if flow, back := impl.MaxFlow(c.n, c.arcs, c.s, c.t), impl.MaxFlow(c.n, turned, c.t, c.s); flow != back {
			t.Errorf("MaxFlow(%v) = %d, but %d turned around", c, flow, back)
		}
	}
}

func TestP130AnArcAddsAtMostItsCapacity(t *testing.T) {
	none, some, whole := 0, 0, 0
	for _, c := range validNets() {
		flow := impl.MaxFlow(c.n, c.arcs, c.s, c.t)
		for i, a := range c.arcs {
			// Any arc can be the last one.
			less := impl.MaxFlow(c.n, slices.Delete(slices.Clone(c.arcs), i, i+1), c.s, c.t)
			if !within(less, max(0, flow-a.Cap), flow) {
				t.Errorf("MaxFlow(%v) = %d, but %d without arc %d", c, flow, less, i)
			}
			switch flow - less {
			case 0:
				none++
			case a.Cap:
				whole++
			default:
				some++
			}
		}
	}
	if none < 100 || some < 100 || whole < 100 {
		t.Errorf("%d arcs add nothing, %d a part, and %d their capacity", none, some, whole)
	}
}

func TestP131TheSmallestCutIsTheSmallestSet(t *testing.T) {
	checked := 0
	for _, c := range validNets() {
		flow, cut := impl.MaxFlow(c.n, c.arcs, c.s, c.t), impl.MinCut(c.n, c.arcs, c.s, c.t)
		for i := range cut {
			fewer := minusOne(cut, i)
			if sum := impl.CutCapacity(c.n, c.arcs, c.s, c.t, fewer); sum == flow {
				t.Errorf("MinCut(%v) = %v, but %v has the same capacity", c, cut, fewer)
			}
			checked++
		}
		// It is part of all others.
		for _, set := range cutsOf(c) {
			if impl.CutCapacity(c.n, c.arcs, c.s, c.t, set) != flow {
				continue
			}
			for _, v := range cut {
				if !slices.Contains(set, v) {
					t.Errorf("MinCut(%v) = %v, but %v has the same capacity", c, cut, set)
				}
			}
		}
	}
	if checked < 1000 {
		t.Errorf("only %d nodes are in cuts", checked)
	}
}

func TestP132NoFlowIsGreaterThanACut(t *testing.T) {
	larger := 0
	for _, c := range validNets() {
		flow := impl.MaxFlow(c.n, c.arcs, c.s, c.t)
		for _, set := range cutsOf(c) {
			sum := impl.CutCapacity(c.n, c.arcs, c.s, c.t, set)
			if sum < flow {
				t.Errorf("MaxFlow(%v) = %d, but %v has the capacity %d", c, flow, set, sum)
			}
			if sum > flow {
				larger++
			}
		}
	}
	if larger < 1000 {
		t.Errorf("only %d cuts are larger", larger)
	}
}

func TestP133NoTreeIsCheaperThanTheBestOne(t *testing.T) {
	dearer := 0
	for _, f := range validForests() {
		_, best := impl.BestTree(f.n, f.links)
		for _, chosen := range choicesOfLinks(f) {
			cost := impl.TreeCost(f.n, f.links, chosen)
			if cost >= 0 && !within(best, 0, cost) {
				t.Errorf("BestTree(%v) costs %d, but %v costs %d", f, best, chosen, cost)
			}
			if cost > best {
				dearer++
			}
		}
	}
	if dearer < 1000 {
		t.Errorf("only %d trees are dearer", dearer)
	}
}

func TestP134TheBestTreeIsOne(t *testing.T) {
	replaced := 0
	for _, f := range validForests() {
		tree, best := impl.BestTree(f.n, f.links)
		if best < 0 {
			continue
		}
		if cost := impl.TreeCost(f.n, f.links, tree); cost != best {
			t.Errorf("BestTree(%v) = %v, %d, but TreeCost is %d", f, tree, best, cost)
		}
		for i, k := range tree {
			for other, l := range f.links {
				if slices.Contains(tree, other) {
					continue
				}
				exchanged := slices.Sorted(slices.Values(append(minusOne(tree, i), other)))
				switch cost := impl.TreeCost(f.n, f.links, exchanged); {
				case cost < 0:
				case l.Cost < f.links[k].Cost:
					t.Errorf("BestTree(%v) = %v, but link %d can replace link %d", f, tree, other, k)
				default:
					replaced++
				}
			}
		}
	}
	if replaced < 1000 {
		t.Errorf("only %d links can be replaced", replaced)
	}
}

func TestNetworksAreNotChangedAndNotShared(t *testing.T) {
	for _, c := range append(validNets(), invalidNets()...) {
		kept, flow, set := spareArcs(c.arcs), spare(make([]int, len(c.arcs))), spare(ints(c.s))
		checkMemory(t, "a function of chapter 20", []any{kept, flow, set}, func() []any {
			value, ok := impl.FlowValue(c.n, kept, c.s, c.t, flow)
			return []any{value, ok, impl.MaxFlow(c.n, kept, c.s, c.t), impl.MinCut(c.n, kept, c.s, c.t), impl.CutCapacity(c.n, kept, c.s, c.t, set)}
		})
	}
	for _, f := range append(validForests(), invalidForests()...) {
		tree, _ := impl.BestTree(f.n, f.links)
		kept, chosen := spareLinks(f.links), spare(tree)
		checkMemory(t, "a function of chapter 20", []any{kept, chosen}, func() []any {
			best, cost := impl.BestTree(f.n, kept)
			return []any{best, cost, impl.TreeCost(f.n, kept, chosen)}
		})
	}
}
