package tests

import (
	"slices"
	"testing"

	"loop.example/integerplanner/impl"
)

func boxes(list ...impl.Box) []impl.Box {
	return list
}

// search returns a search without a best point.
func search(steps int, open ...impl.Box) impl.Search {
	return impl.Search{Open: open, Cost: -1, Steps: steps}
}

// withBest returns a search with a best point.
func withBest(p impl.Problem, s impl.Search, x []int) impl.Search {
	s.Best, s.Cost = slices.Clone(x), dot(p.Costs, x)
	return s
}

// withSteps returns a search with another number of steps.
func withSteps(s impl.Search, steps int) impl.Search {
	s.Steps = steps
	return s
}

func sameSearch(a impl.Search, b impl.Search) bool {
	return slices.EqualFunc(a.Open, b.Open, sameBox) && slices.Equal(a.Best, b.Best) && a.Cost == b.Cost && a.Steps == b.Steps
}

// noSearch reports whether a search is the zero value, nil or empty.
func noSearch(s impl.Search) bool {
	return sameSearch(s, impl.Search{})
}

// spareSearch returns a copy of a search with marks in the spare capacity of all slices.
func spareSearch(s impl.Search) impl.Search {
	open := make([]impl.Box, 0, len(s.Open)+3)
	for _, b := range s.Open {
		open = append(open, spareBox(b))
	}
	for i := len(open); i < cap(open); i++ {
		open[:cap(open)][i] = box(ints(mark), ints(mark))
	}
	return impl.Search{Open: open, Best: spare(s.Best), Cost: s.Cost, Steps: s.Steps}
}

// wantSearchStep returns what SearchStep returns for a valid search.
func wantSearchStep(p impl.Problem, s impl.Search) (impl.Search, bool) {
	if s.Steps == impl.MaxSteps || len(s.Open) == impl.MaxOpen {
		return impl.Search{}, false
	}
	if len(s.Open) == 0 {
		return s, true
	}
	last := s.Open[len(s.Open)-1]
	next := impl.Search{Best: s.Best, Cost: s.Cost, Steps: s.Steps + 1}
	for _, b := range s.Open[:len(s.Open)-1] {
		next.Open = append(next.Open, cloneBox(b))
	}
	if len(s.Best) > 0 && dot(p.Costs, last.Low) >= s.Cost {
		return next, true
	}
	tight, ok := wantAllTight(p, last)
	if !ok || len(s.Best) > 0 && dot(p.Costs, tight.Low) >= s.Cost {
		return next, true
	}
	for v, low := range tight.Low {
		if high := tight.High[v]; low < high {
			middle := (low + high) / 2
			next.Open = append(next.Open, box(changed(tight.Low, v, middle+1), slices.Clone(tight.High)), box(slices.Clone(tight.Low), changed(tight.High, v, middle)))
			return next, true
		}
	}
	return withBest(p, next, tight.Low), true
}

// wantSearchRun returns what SearchRun returns for a valid search and a valid number of steps.
func wantSearchRun(p impl.Problem, s impl.Search, n int) (impl.Search, bool) {
	for range n {
		if len(s.Open) == 0 {
			break
		}
		next, ok := wantSearchStep(p, s)
		if !ok {
			return impl.Search{}, false
		}
		s = next
	}
	return s, true
}

// wantSearchBound returns what SearchBound returns for a valid search.
func wantSearchBound(p impl.Problem, s impl.Search) int {
	var costs []int
	if len(s.Best) > 0 {
		costs = append(costs, s.Cost)
	}
	for _, b := range s.Open {
		costs = append(costs, dot(p.Costs, b.Low))
	}
	if len(costs) == 0 {
		return -1
	}
	return slices.Min(costs)
}

// longProblem returns a problem with n variables, and without feasible points, for which a search needs many steps: each value
// of all variables but the last two is tried.
func longProblem(n int) impl.Problem {
	coefs := append(ints(2, -2, 2, -2)[:n-1], 6)
	return problem(slices.Repeat(ints(1), n), slices.Repeat(ints(9), n), row(3, 27, coefs...))
}

// searchProblems returns problems of all sizes for searches.
func searchProblems() []impl.Problem {
	return slices.Concat(edgeProblems(), validProblems()[80:], tiedProblems()[:60], demandProblems()[:80])
}

// searchesAlong returns the searches after each of the first steps from SearchStart on.
func searchesAlong(p impl.Problem, steps int) []impl.Search {
	s := search(0, wholeBox(p))
	list := []impl.Search{s}
	for range steps {
		next, ok := wantSearchStep(p, s)
		if !ok || len(s.Open) == 0 {
			break
		}
		s = next
		list = append(list, s)
	}
	return list
}

// validSearches returns searches of a problem: those after a few steps, others with any boxes, and with and without a best point.
func validSearches(p impl.Problem) []impl.Search {
	list := append(searchesAlong(p, 12), search(0), search(impl.MaxSteps), search(impl.MaxSteps-1))
	all := validBoxes(p)
	for _, b := range all {
		list = append(list, search(7, b))
	}
	many := slices.Repeat(all, 3)
	for _, n := range []int{2, 5, len(all), impl.MaxOpen - 1, impl.MaxOpen} {
		list = append(list, search(n, many[:n]...), search(impl.MaxSteps-1, many[len(many)-n:]...), search(impl.MaxSteps, many[1:n+1]...))
	}
	feasible := 0
	for _, x := range somePoints(p) {
		if len(wantViolated(p, x)) > 0 {
			continue
		}
		feasible++
		for i, s := range list {
			if (i+feasible)%4 == 0 && feasible < 6 && len(s.Best) == 0 {
				list = append(list, withBest(p, s, x))
			}
		}
	}
	return list
}

// invalidSearches returns searches with one fault each.
func invalidSearches(p impl.Problem) []impl.Search {
	whole := wholeBox(p)
	list := []impl.Search{{}, {Open: boxes(whole)}, search(0, slices.Repeat(boxes(whole), impl.MaxOpen+1)...), search(0, slices.Repeat(boxes(whole), 1000)...)}
	for _, n := range []int{-1, impl.MaxSteps + 1, greatestInt, leastInt} {
		list = append(list, search(n, whole), search(n))
	}
	for _, n := range []int{0, 1, -2, greatestInt, leastInt} {
		list = append(list, impl.Search{Open: boxes(whole), Cost: n}, impl.Search{Cost: n}, impl.Search{Open: boxes(whole), Best: ints(), Cost: n})
	}
	for _, b := range invalidBoxes(p) {
		list = append(list, search(0, b), search(0, b, whole), search(0, whole, b))
	}
	for _, x := range noPoints(p) {
		if len(x) > 0 {
			list = append(list, impl.Search{Best: x, Cost: 0}, impl.Search{Open: boxes(whole), Best: x, Cost: -1})
		}
	}
	for _, x := range somePoints(p) {
		cost := dot(p.Costs, x)
		if len(wantViolated(p, x)) > 0 {
			list = append(list, withBest(p, search(0, whole), x), impl.Search{Best: x, Cost: -1})
			continue
		}
		for _, wrong := range []int{-1, cost + 1, cost - 1, greatestInt, leastInt} {
			list = append(list, impl.Search{Open: boxes(whole), Best: x, Cost: wrong}, impl.Search{Best: x, Cost: wrong})
		}
	}
	return list
}

func TestLimitsOfSearches(t *testing.T) {
	if impl.MaxOpen != 40 || impl.MaxSteps != 5000 {
		t.Error("the limits are wrong")
	}
}

func TestValidSearch(t *testing.T) {
	best, without := 0, 0
	for _, p := range searchProblems() {
		for _, s := range validSearches(p) {
			if !impl.ValidSearch(p, s) {
				t.Errorf("ValidSearch(%v, %v) = false", p, s)
			}
			if len(s.Best) > 0 {
				best++
			} else {
				without++
			}
		}
		for _, s := range invalidSearches(p) {
			if impl.ValidSearch(p, s) {
				t.Errorf("ValidSearch(%v, %v) = true", p, s)
			}
		}
	}
	if best < 1000 || without < 1000 {
		t.Errorf("%d searches with a best point, and %d without", best, without)
	}
}

func TestSearchStart(t *testing.T) {
	for _, p := range exactProblems() {
		if s := impl.SearchStart(p); !sameSearch(s, search(0, wholeBox(p))) {
			t.Errorf("SearchStart(%v) = %v", p, s)
		}
	}
	for _, p := range invalidProblems() {
		if s := impl.SearchStart(p); !noSearch(s) {
			t.Errorf("SearchStart(%v) = %v", p, s)
		}
	}
}

func TestSearchStep(t *testing.T) {
	divided, dropped, found, failed := 0, 0, 0, 0
	for _, p := range searchProblems() {
		for _, s := range validSearches(p) {
			want, ok := wantSearchStep(p, s)
			if got, gotOk := impl.SearchStep(p, s); gotOk != ok || !sameSearch(got, want) {
				t.Errorf("SearchStep(%v, %v) = %v, %t, want %v, %t", p, s, got, gotOk, want, ok)
			}
			switch {
			case !ok:
				failed++
			case len(want.Open) > len(s.Open):
				divided++
			case want.Cost != s.Cost:
				found++
			case len(s.Open) > 0:
				dropped++
			}
		}
	}
	if divided < 1000 || dropped < 1000 || found < 500 || failed < 1000 {
		t.Errorf("%d boxes are divided, %d dropped, and %d become the best point; %d steps fail", divided, dropped, found, failed)
	}
}

// stepping is a step of a search: its boxes after it are those ahead of the last one, and these.
type stepping struct {
	b    impl.Box
	best []int
	open []impl.Box
	now  []int
}

func TestSteps(t *testing.T) {
	free := problem(ints(3, 2), ints(9, 9))
	cheap := problem(ints(0, 0), ints(9, 9))
	tied := problem(ints(3, 2), ints(4, 4), row(2, 5, 2, 1))
	equal := problem(ints(1, 1), ints(3, 3), row(3, 3, 1, 1), row(1, 1, 1, 0))
	for _, c := range []struct {
		p impl.Problem
		stepping
	}{
		// The box is divided at the first variable with several values, at the middle, rounded down.
		{free, stepping{box(ints(0, 0), ints(9, 9)), nil, boxes(box(ints(5, 0), ints(9, 9)), box(ints(0, 0), ints(4, 9))), nil}}, {free, stepping{box(ints(0, 0), ints(1, 0)), nil, boxes(box(ints(1, 0), ints(1, 0)), box(ints(0, 0), ints(0, 0))), nil}}, {free, stepping{box(ints(3, 1), ints(3, 2)), nil, boxes(box(ints(3, 2), ints(3, 2)), box(ints(3, 1), ints(3, 1))), nil}},
		{free, stepping{box(ints(2, 4), ints(9, 4)), nil, boxes(box(ints(6, 4), ints(9, 4)), box(ints(2, 4), ints(5, 4))), nil}}, {free, stepping{box(ints(7, 3), ints(9, 9)), nil, boxes(box(ints(9, 3), ints(9, 9)), box(ints(7, 3), ints(8, 9))), nil}}, {free, stepping{box(ints(7, 2), ints(7, 9)), nil, boxes(box(ints(7, 6), ints(7, 9)), box(ints(7, 2), ints(7, 5))), nil}},
		// It is tightened ahead of that, and may have only one point then.
		{tied, stepping{box(ints(0, 0), ints(4, 3)), nil, boxes(box(ints(3, 0), ints(4, 3)), box(ints(1, 0), ints(2, 3))), nil}}, {tied, stepping{box(ints(0, 0), ints(1, 3)), nil, nil, ints(1, 3)}}, {equal, stepping{box(ints(1, 0), ints(3, 3)), nil, nil, ints(1, 2)}}, {equal, stepping{box(ints(0, 0), ints(3, 3)), nil, boxes(box(ints(1, 2), ints(1, 3)), box(ints(0, 2), ints(0, 3))), nil}},
		{free, stepping{box(ints(0, 0), ints(0, 0)), nil, nil, ints(0, 0)}}, {free, stepping{box(ints(9, 9), ints(9, 9)), nil, nil, ints(9, 9)}}, {tied, stepping{box(ints(2, 1), ints(2, 1)), ints(1, 4), nil, ints(2, 1)}},
		// No point is left.
		{tied, stepping{box(ints(0, 0), ints(2, 0)), nil, nil, nil}}, {tied, stepping{box(ints(1, 2), ints(1, 2)), nil, nil, nil}}, {tied, stepping{box(ints(0, 0), ints(2, 0)), ints(4, 4), nil, ints(4, 4)}}, {equal, stepping{box(ints(2, 0), ints(3, 3)), nil, nil, nil}},
		// The lows cost as much as the best point, or more or less, ahead of tightening or afterwards.
		{free, stepping{box(ints(1, 1), ints(9, 9)), ints(1, 1), nil, ints(1, 1)}}, {free, stepping{box(ints(1, 2), ints(9, 9)), ints(1, 1), nil, ints(1, 1)}}, {free, stepping{box(ints(0, 2), ints(0, 4)), ints(1, 1), boxes(box(ints(0, 4), ints(0, 4)), box(ints(0, 2), ints(0, 3))), ints(1, 1)}}, {free, stepping{box(ints(0, 2), ints(0, 2)), ints(1, 1), nil, ints(0, 2)}}, {free, stepping{box(ints(3, 0), ints(3, 0)), ints(1, 3), nil, ints(1, 3)}},
		{tied, stepping{box(ints(0, 0), ints(1, 3)), ints(3, 0), nil, ints(3, 0)}}, {tied, stepping{box(ints(0, 0), ints(1, 3)), ints(2, 1), nil, ints(2, 1)}}, {tied, stepping{box(ints(0, 0), ints(1, 3)), ints(2, 2), nil, ints(1, 3)}}, {tied, stepping{box(ints(0, 2), ints(1, 4)), ints(1, 3), nil, ints(1, 3)}},
		// A best point that costs nothing.
		{cheap, stepping{box(ints(0, 0), ints(9, 9)), ints(0, 0), nil, ints(0, 0)}}, {cheap, stepping{box(ints(0, 0), ints(0, 0)), ints(3, 4), nil, ints(3, 4)}}, {cheap, stepping{box(ints(1, 1), ints(1, 1)), nil, nil, ints(1, 1)}}, {cheap, stepping{box(ints(1, 1), ints(1, 3)), nil, boxes(box(ints(1, 3), ints(1, 3)), box(ints(1, 1), ints(1, 2))), nil}},
	} {
		first := boxes(box(ints(0, 0), ints(0, 1)), box(ints(2, 2), ints(3, 3)))
		for n := range 3 {
			s := search(n, append(slices.Clone(first[:n]), c.b)...)
			want := search(n+1, append(slices.Clone(first[:n]), c.open...)...)
			if c.best != nil {
				s = withBest(c.p, s, c.best)
			}
			if c.now != nil {
				want = withBest(c.p, want, c.now)
			}
			if got, ok := impl.SearchStep(c.p, s); !ok || !sameSearch(got, want) {
				t.Errorf("SearchStep(%v, %v) = %v, %t, want %v", c.p, s, got, ok, want)
			}
		}
	}
}

func TestStepsAtLimits(t *testing.T) {
	p := problem(ints(3, 2), ints(9, 9), row(2, 5, 2, 1))
	whole, point := wholeBox(p), box(ints(9, 9), ints(9, 9))
	for _, c := range []struct {
		s    impl.Search
		ok   bool
		open int
	}{
		{search(impl.MaxSteps, whole), false, 0}, {search(impl.MaxSteps-1, whole), true, 2}, {search(impl.MaxSteps, point), false, 0}, {search(impl.MaxSteps-1, point), true, 0}, {search(impl.MaxSteps), false, 0}, {search(impl.MaxSteps - 1), true, 0},
		{search(0, slices.Repeat(boxes(whole), impl.MaxOpen)...), false, 0}, {search(0, slices.Repeat(boxes(whole), impl.MaxOpen-1)...), true, impl.MaxOpen}, {search(0, slices.Repeat(boxes(point), impl.MaxOpen)...), false, 0}, {search(0, slices.Repeat(boxes(point), impl.MaxOpen-1)...), true, impl.MaxOpen - 2}, {search(impl.MaxSteps, slices.Repeat(boxes(whole), impl.MaxOpen)...), false, 0}, {search(impl.MaxSteps-1, slices.Repeat(boxes(whole), impl.MaxOpen-1)...), true, impl.MaxOpen},
		{withBest(p, search(impl.MaxSteps), ints(9, 9)), false, 0}, {withBest(p, search(impl.MaxSteps-1), ints(9, 9)), true, 0},
	} {
		got, ok := impl.SearchStep(p, c.s)
		if ok != c.ok || len(got.Open) != c.open || !ok && !noSearch(got) {
			t.Errorf("SearchStep(%v) = %v, %t", c.s, got, ok)
		}
		if ok && len(c.s.Open) == 0 && !sameSearch(got, c.s) {
			t.Errorf("SearchStep(%v) = %v, but no box is open", c.s, got)
		}
	}
}

func TestSearchRun(t *testing.T) {
	ended, stopped, failed := 0, 0, 0
	for k, p := range searchProblems() {
		for i, s := range validSearches(p) {
			for _, n := range []int{0, 1, 2, 3, []int{6, 17, 40}[(k+i)%3]} {
				want, ok := wantSearchRun(p, s, n)
				if got, gotOk := impl.SearchRun(p, s, n); gotOk != ok || !sameSearch(got, want) {
					t.Errorf("SearchRun(%v, %v, %d) = %v, %t, want %v, %t", p, s, n, got, gotOk, want, ok)
				}
				switch {
				case !ok:
					failed++
				case len(want.Open) > 0:
					stopped++
				default:
					ended++
				}
			}
		}
	}
	if ended < 1000 || stopped < 1000 || failed < 1000 {
		t.Errorf("%d runs end, %d are stopped, and %d fail", ended, stopped, failed)
	}
}

func TestRunsAtLimits(t *testing.T) {
	p := problem(ints(3, 2), ints(9, 9), row(2, 5, 2, 1))
	whole, point := wholeBox(p), box(ints(9, 9), ints(9, 9))
	full := slices.Repeat(boxes(whole), impl.MaxOpen)
	for _, c := range []struct {
		s     impl.Search
		n     int
		ok    bool
		steps int
		open  int
	}{
		// Without a step, or without an open box, nothing fails.
		{search(0, whole), 0, true, 0, 1}, {search(impl.MaxSteps, whole), 0, true, impl.MaxSteps, 1}, {search(3, full...), 0, true, 3, impl.MaxOpen}, {search(impl.MaxSteps, full...), 0, true, impl.MaxSteps, impl.MaxOpen}, {search(impl.MaxSteps), 0, true, impl.MaxSteps, 0}, {search(impl.MaxSteps), 1, true, impl.MaxSteps, 0}, {search(impl.MaxSteps), impl.MaxSteps, true, impl.MaxSteps, 0}, {search(9), impl.MaxSteps, true, 9, 0}, {withBest(p, search(impl.MaxSteps), ints(4, 4)), 7, true, impl.MaxSteps, 0},
		// The last steps that are possible, and one more.
		{search(impl.MaxSteps, whole), 1, false, 0, 0}, {search(impl.MaxSteps-1, whole), 1, true, impl.MaxSteps, 2}, {search(impl.MaxSteps-1, whole), 2, false, 0, 0}, {search(impl.MaxSteps-1, point), 1, true, impl.MaxSteps, 0}, {search(impl.MaxSteps-1, point), 2, true, impl.MaxSteps, 0}, {search(impl.MaxSteps-1, point), impl.MaxSteps, true, impl.MaxSteps, 0}, {search(impl.MaxSteps-2, point, point), 9, true, impl.MaxSteps, 0}, {search(impl.MaxSteps-1, point, point), 9, false, 0, 0},
		// As many open boxes as are possible, and after one step.
		{search(0, full...), 1, false, 0, 0}, {search(0, full[1:]...), 1, true, 1, impl.MaxOpen}, {search(0, full[1:]...), 2, false, 0, 0}, {search(0, full[2:]...), 2, true, 2, impl.MaxOpen}, {search(0, full[2:]...), 3, false, 0, 0},
		// Numbers of steps that are not valid, whether there is something to do or not.
		{search(0, whole), -1, false, 0, 0}, {search(0, whole), impl.MaxSteps + 1, false, 0, 0}, {search(0, whole), greatestInt, false, 0, 0}, {search(0, whole), leastInt, false, 0, 0}, {search(0), -1, false, 0, 0}, {search(0), impl.MaxSteps + 1, false, 0, 0}, {search(0), greatestInt, false, 0, 0}, {search(0), leastInt, false, 0, 0},
	} {
		got, ok := impl.SearchRun(p, c.s, c.n)
		if ok != c.ok || got.Steps != c.steps || len(got.Open) != c.open || !ok && !noSearch(got) {
			t.Errorf("SearchRun(%v, %d) = %v, %t", c.s, c.n, got, ok)
		}
		if ok && c.s.Steps == got.Steps && !sameSearch(got, c.s) {
			t.Errorf("SearchRun(%v, %d) = %v, but nothing is to be done", c.s, c.n, got)
		}
	}
}

// TestLongSearches runs a search that needs more than MaxSteps steps.
func TestLongSearches(t *testing.T) {
	p := longProblem(impl.MaxVars)
	whole := wholeBox(p)
	once, ok := impl.SearchRun(p, impl.SearchStart(p), impl.MaxSteps)
	if !ok || len(once.Open) > 0 || len(once.Best) > 0 || once.Cost != -1 || !within(once.Steps, impl.MaxSteps/4, impl.MaxSteps-1) {
		t.Fatalf("SearchRun = %v, %t", once, ok)
	}
	start := search(0, slices.Repeat(boxes(whole), 5)...)
	s, ok := impl.SearchRun(p, start, impl.MaxSteps)
	if !ok || s.Steps != impl.MaxSteps || len(s.Open) == 0 || len(s.Best) > 0 || !impl.ValidSearch(p, s) {
		t.Fatalf("SearchRun = %v, %t after MaxSteps", s, ok)
	}
	if got, ok := impl.SearchStep(p, s); ok || !noSearch(got) {
		t.Errorf("SearchStep = %v, %t after MaxSteps", got, ok)
	}
	one, _ := impl.SearchStep(p, start)
	if got, ok := impl.SearchRun(p, one, impl.MaxSteps); ok || !noSearch(got) {
		t.Errorf("SearchRun = %v, %t for one step more than MaxSteps", got, ok)
	}
	if got, ok := impl.SearchRun(p, one, impl.MaxSteps-1); !ok || !sameSearch(got, s) {
		t.Errorf("SearchRun = %v, %t for the steps after the first one", got, ok)
	}
	// With no steps counted so far, it goes on to the end: as often as the search of one box needs.
	end, ok := impl.SearchRun(p, withSteps(s, 0), impl.MaxSteps)
	for ok && len(end.Open) > 0 {
		s.Steps += end.Steps
		end, ok = impl.SearchRun(p, withSteps(end, 0), impl.MaxSteps)
	}
	if !ok || len(end.Best) > 0 || end.Cost != -1 || impl.SearchBound(p, end) != -1 || s.Steps+end.Steps != 5*once.Steps {
		t.Errorf("at the end %v, %t", end, ok)
	}
}

func TestSearchBound(t *testing.T) {
	none, ofBest, ofBox := 0, 0, 0
	for _, p := range searchProblems() {
		for _, s := range validSearches(p) {
			want := wantSearchBound(p, s)
			if got := impl.SearchBound(p, s); got != want {
				t.Errorf("SearchBound(%v, %v) = %d, want %d", p, s, got, want)
			}
			switch {
			case want < 0:
				none++
			case want == s.Cost:
				ofBest++
			default:
				ofBox++
			}
		}
	}
	if none < 100 || ofBest < 100 || ofBox < 100 {
		t.Errorf("%d searches have no bound, %d that of the best point, and %d that of a box", none, ofBest, ofBox)
	}
	p := problem(ints(3, 2), ints(9, 9), row(2, 1, 1, 1))
	a, b := box(ints(3, 0), ints(9, 9)), box(ints(0, 2), ints(2, 9))
	for _, c := range []struct {
		s    impl.Search
		want int
	}{
		{search(0), -1}, {search(impl.MaxSteps), -1}, {search(0, a), 9}, {search(0, b), 4}, {search(0, a, b), 4}, {search(0, b, a), 4}, {withBest(p, search(0), ints(1, 1)), 5}, {withBest(p, search(0, a), ints(1, 1)), 5}, {withBest(p, search(0, a, b), ints(1, 1)), 4}, {withBest(p, search(0, b), ints(0, 1)), 2}, {search(0, wholeBox(p), a), 0}, {search(0, a, wholeBox(p)), 0},
	} {
		if got := impl.SearchBound(p, c.s); got != c.want {
			t.Errorf("SearchBound(%v) = %d, want %d", c.s, got, c.want)
		}
	}
}

func TestSearchesWithInvalidArguments(t *testing.T) {
	check := func(p impl.Problem, s impl.Search) {
		if impl.ValidSearch(p, s) {
			t.Errorf("ValidSearch(%v, %v) = true", p, s)
		}
		if got, ok := impl.SearchStep(p, s); ok || !noSearch(got) {
			t.Errorf("SearchStep(%v, %v) = %v, %t", p, s, got, ok)
		}
		for _, n := range []int{0, 1, impl.MaxSteps} {
			if got, ok := impl.SearchRun(p, s, n); ok || !noSearch(got) {
				t.Errorf("SearchRun(%v, %v, %d) = %v, %t", p, s, n, got, ok)
			}
		}
		if got := impl.SearchBound(p, s); got != -1 {
			t.Errorf("SearchBound(%v, %v) = %d", p, s, got)
		}
	}
	for _, p := range searchProblems()[:90] {
		for _, s := range invalidSearches(p) {
			check(p, s)
		}
	}
	for _, p := range invalidProblems() {
		check(p, impl.Search{})
		check(p, search(0))
		for n := range impl.MaxVars + 2 {
			zero := make([]int, n)
			check(p, search(0, box(zero, zero)))
			check(p, impl.Search{Best: zero, Cost: 0})
			check(p, impl.Search{Best: zero, Cost: -1})
		}
		check(p, search(0, box(p.Uppers, p.Uppers)))
	}
}

func TestP147SearchesStayValid(t *testing.T) {
	for _, p := range searchProblems() {
		for _, s := range validSearches(p) {
			next, ok := impl.SearchStep(p, s)
			if ok && (!impl.ValidSearch(p, next) || len(s.Best) > 0 && (len(next.Best) == 0 || next.Cost > s.Cost)) {
				t.Errorf("SearchStep(%v, %v) = %v", p, s, next)
			}
		}
	}
}

func TestP148ASearchBeginsWithEverything(t *testing.T) {
	for _, p := range exactProblems() {
		s := impl.SearchStart(p)
		if !impl.ValidSearch(p, s) || len(s.Open) != 1 || !sameBox(s.Open[0], impl.StartBox(p)) || impl.SearchBound(p, s) != 0 {
			t.Errorf("SearchStart(%v) = %v", p, s)
		}
	}
}

func TestP149StepsAreCounted(t *testing.T) {
	for _, p := range searchProblems() {
		for _, s := range validSearches(p) {
			next, ok := impl.SearchStep(p, s)
			n := len(s.Open) - 1
			if ok && n >= 0 && (next.Steps != s.Steps+1 || len(next.Open) < n || !slices.EqualFunc(next.Open[:n], s.Open[:n], sameBox)) {
				t.Errorf("SearchStep(%v, %v) = %v", p, s, next)
			}
		}
	}
}

func TestP150LowerBoundsDoNotFall(t *testing.T) {
	grown := 0
	for _, p := range searchProblems() {
		for _, s := range validSearches(p) {
			next, ok := impl.SearchStep(p, s)
			if !ok {
				continue
			}
			before, after := impl.SearchBound(p, s), impl.SearchBound(p, next)
			if after >= 0 && after < before {
				t.Errorf("SearchBound(%v, %v) = %d, but %d after a step", p, s, before, after)
			}
			if after > before {
				grown++
			}
		}
	}
	if grown < 100 {
		t.Errorf("only %d bounds grow", grown)
	}
}

// followed returns SearchRun of one number of steps, followed by SearchRun of another one.
func followed(p impl.Problem, s impl.Search, first int, second int) (impl.Search, bool) {
	half, _ := impl.SearchRun(p, s, first)
	return impl.SearchRun(p, half, second)
}

func TestP151AnInterruptedSearchGoesOnAsIfNothingHadHappened(t *testing.T) {
	for _, p := range searchProblems() {
		for _, s := range validSearches(p) {
			for _, n := range []int{1, 2, 5, 31} {
				want, ok := impl.SearchRun(p, s, n)
				if got, gotOk := followed(p, s, 1, n-1); gotOk != ok || !sameSearch(got, want) {
					t.Errorf("SearchRun(%v, %v, %d) = %v, %t, but after one step %v, %t", p, s, n, want, ok, got, gotOk)
				}
			}
		}
	}
}

// TestP151ASearchIsStoppedAfterEachOfItsSteps compares steps, and runs to the end from each of them, with an unbroken run.
func TestP151ASearchIsStoppedAfterEachOfItsSteps(t *testing.T) {
	most := 0
	for _, p := range append(searchProblems(), longProblem(3), longProblem(4)) {
		whole, ok := impl.SearchRun(p, impl.SearchStart(p), impl.MaxSteps)
		if !ok {
			t.Fatalf("SearchRun(%v) fails", p)
		}
		if whole.Steps > 400 {
			continue
		}
		most = max(most, whole.Steps)
		s := impl.SearchStart(p)
		for done := range whole.Steps {
			if s.Steps != done || len(s.Open) == 0 {
				t.Fatalf("%v after %d steps of %v", s, done, p)
			}
			if rest, ok := impl.SearchRun(p, s, whole.Steps-done); !ok || !sameSearch(rest, whole) {
				t.Errorf("SearchRun(%v, %v) = %v, %t, but unbroken %v", p, s, rest, ok, whole)
			}
			run, runOk := impl.SearchRun(p, impl.SearchStart(p), done+1)
			next, ok := impl.SearchStep(p, s)
			if !ok || !runOk || !sameSearch(run, next) {
				t.Fatalf("SearchStep(%v, %v) = %v, %t, but SearchRun is %v, %t", p, s, next, ok, run, runOk)
			}
			s = next
		}
		if !sameSearch(s, whole) {
			t.Errorf("%v after all steps of %v, but unbroken %v", s, p, whole)
		}
	}
	if most < 100 {
		t.Errorf("no search has more than %d steps", most)
	}
}

func TestP152ASearchCanBeSavedAtAnyStep(t *testing.T) {
	for _, p := range searchProblems() {
		for _, s := range validSearches(p) {
			for _, n := range []int{2, 8, 50} {
				want, ok := impl.SearchRun(p, s, n)
				if got, gotOk := followed(p, s, n/2, n/2); gotOk != ok || !sameSearch(got, want) {
					t.Errorf("SearchRun(%v, %v, %d) = %v, %t, but in halves %v, %t", p, s, n, want, ok, got, gotOk)
				}
			}
		}
		want, ok := impl.SearchRun(p, impl.SearchStart(p), impl.MaxSteps)
		if got, gotOk := followed(p, impl.SearchStart(p), impl.MaxSteps/2, impl.MaxSteps/2); gotOk != ok || !sameSearch(got, want) {
			t.Errorf("SearchRun(%v) = %v, %t, but in halves %v, %t", p, want, ok, got, gotOk)
		}
	}
}

func TestP153TheSearchFindsTheSolution(t *testing.T) {
	found, none := 0, 0
	for _, p := range exactProblems() {
		s, ok := impl.SearchRun(p, impl.SearchStart(p), impl.MaxSteps)
		if !ok {
			t.Errorf("SearchRun(%v) = %v, %t", p, s, ok)
		}
		if len(s.Open) > 0 {
			continue
		}
		x, cost := impl.SolveExact(p)
		if !slices.Equal(s.Best, x) || s.Cost != cost {
			t.Errorf("SearchRun(%v) = %v, but SolveExact is %v, %d", p, s, x, cost)
		}
		if cost >= 0 {
			found++
		} else {
			none++
		}
	}
	if found < 200 || none < 50 {
		t.Errorf("%d searches find a solution, and %d find that there is none", found, none)
	}
}

func TestP154TheBoundIsABound(t *testing.T) {
	for _, p := range exactProblems() {
		_, least := impl.SolveExact(p)
		s := impl.SearchStart(p)
		for range 100 {
			bound := impl.SearchBound(p, s)
			if least >= 0 && !within(bound, 0, least) {
				t.Errorf("SearchBound(%v, %v) = %d, but a point costs %d", p, s, bound, least)
			}
			if len(s.Open) == 0 && bound != least {
				t.Errorf("SearchBound(%v, %v) = %d at the end, but the least cost is %d", p, s, bound, least)
			}
			next, ok := impl.SearchStep(p, s)
			if !ok {
				t.Fatalf("SearchStep(%v, %v) fails", p, s)
			}
			s = next
		}
	}
}

func TestSearchesAreNotChangedAndNotShared(t *testing.T) {
	for k, p := range slices.Concat(edgeProblems(), tiedProblems()[:20], demandProblems()[:20], invalidProblems()[:10]) {
		arg := spareProblem(p)
		var list []impl.Search
		if impl.ValidProblem(p) {
			list = append(validSearches(p)[k%3:], invalidSearches(p)[k%5:8]...)
		} else {
			list = []impl.Search{search(0, box(ints(0), ints(1))), {}}
		}
		checkMemory(t, "SearchStart", []any{arg}, func() []any { return []any{impl.SearchStart(arg)} })
		for _, s := range list {
			of := spareSearch(s)
			checkMemory(t, "a function of chapter 23", []any{arg, of}, func() []any {
				step, stepOk := impl.SearchStep(arg, of)
				run, runOk := impl.SearchRun(arg, of, k%9)
				long, longOk := impl.SearchRun(arg, of, impl.MaxSteps)
				return []any{impl.ValidSearch(arg, of), impl.SearchBound(arg, of), step, stepOk, run, runOk, long, longOk}
			})
		}
	}
}

// TestSearchesDoNotKeepTheirArguments changes a search after a step.
func TestSearchesDoNotKeepTheirArguments(t *testing.T) {
	for _, p := range demandProblems() {
		start := impl.SearchStart(p)
		one, _ := impl.SearchStep(p, start)
		want, _ := impl.SearchRun(p, one, 20)
		two, _ := impl.SearchStep(p, one)
		overwrite(start.Open, impl.Box{})
		for _, b := range one.Open {
			overwrite(b.Low, mark)
			overwrite(b.High, mark)
		}
		overwrite(one.Open, impl.Box{})
		if got, ok := impl.SearchRun(p, two, 19); !ok || !sameSearch(got, want) {
			t.Errorf("SearchRun(%v) = %v, %t, want %v", p, got, ok, want)
		}
	}
}
