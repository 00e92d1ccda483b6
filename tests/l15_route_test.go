package tests

import (
	"math/rand"
	"slices"
	"testing"

	"loop.example/integerplanner/impl"
)

// stop returns a stop with a window.
func stop(load int, open int, shut int, service int) impl.Stop {
	return impl.Stop{Load: load, Open: open, Close: shut, Service: service}
}

// easyStops returns n stops without loads and services whose windows allow all times.
func easyStops(n int) []impl.Stop {
	return slices.Repeat([]impl.Stop{stop(0, 0, impl.MaxClock, 0)}, n)
}

// easyFleet returns a fleet with n such stops and the same time between all places.
func easyFleet(n int, time int) impl.Fleet {
	return impl.Fleet{Stops: easyStops(n), Times: table(n+1, n+1, time)}
}

// cloneFleet returns a copy of a fleet.
func cloneFleet(f impl.Fleet) impl.Fleet {
	times := make([][]int, len(f.Times))
	for i, line := range f.Times {
		times[i] = slices.Clone(line)
	}
	return impl.Fleet{Stops: slices.Clone(f.Stops), Times: times, Capacity: f.Capacity}
}

// spareFleet returns a copy of a fleet with marks in the spare capacity of all slices.
func spareFleet(f impl.Fleet) impl.Fleet {
	long := slices.Concat(f.Stops, []impl.Stop{stop(mark, mark, mark, mark), stop(mark, mark, mark, mark)})
	return impl.Fleet{Stops: long[:len(f.Stops)], Times: spareTable(f.Times), Capacity: f.Capacity}
}

// withStop returns a copy of a fleet with another stop at a place in the list.
func withStop(f impl.Fleet, at int, s impl.Stop) impl.Fleet {
	g := cloneFleet(f)
	g.Stops[at] = s
	return g
}

// withTime returns a copy of a fleet with another time between two places.
func withTime(f impl.Fleet, from int, to int, time int) impl.Fleet {
	g := cloneFleet(f)
	g.Times[from][to] = time
	return g
}

// withCapacity returns a copy of a fleet with another capacity.
func withCapacity(f impl.Fleet, capacity int) impl.Fleet {
	g := cloneFleet(f)
	g.Capacity = capacity
	return g
}

// edgeFleets returns fleets at the limits and without stops.
func edgeFleets() []impl.Fleet {
	heavy := slices.Repeat([]impl.Stop{stop(impl.MaxLoad, impl.MaxClock, impl.MaxClock, impl.MaxTravel)}, impl.MaxStops)
	even := slices.Repeat([]impl.Stop{stop(6, 0, impl.MaxClock, 0)}, impl.MaxStops)
	list := []impl.Fleet{
		{Stops: heavy, Times: table(6, 6, impl.MaxTravel), Capacity: impl.MaxLoad}, {Stops: heavy, Times: table(6, 6, 0)}, {Stops: heavy[:1], Times: table(2, 2, 0), Capacity: impl.MaxLoad - 1},
		{Stops: even, Times: table(6, 6, impl.MaxTravel), Capacity: impl.MaxLoad}, {Stops: even, Times: table(6, 6, 40), Capacity: impl.MaxLoad}, {Stops: even, Times: table(6, 6, 40), Capacity: impl.MaxLoad - 1}, {Stops: make([]impl.Stop, 5), Times: table(6, 6, 0)}, {Stops: make([]impl.Stop, 5), Times: table(6, 6, 1)},
		withCapacity(easyFleet(0, 0), impl.MaxLoad), easyFleet(0, impl.MaxTravel),
	}
	for n := range impl.MaxStops + 1 {
		list = append(list, easyFleet(n, 0), easyFleet(n, 1))
	}
	return list
}

// randomFleet returns a fleet with n stops, whose numbers are as small and whose windows are as narrow as chance wants.
func randomFleet(r *rand.Rand, n int) impl.Fleet {
	slowest := []int{1, 3, 12, impl.MaxTravel}[r.Intn(4)]
	latest := []int{2 * slowest, 8 * slowest, impl.MaxClock}[r.Intn(3)]
	f := impl.Fleet{Capacity: r.Intn(impl.MaxLoad + 1)}
	for range n {
		open := r.Intn(min(latest, impl.MaxClock) + 1)
		s := stop(r.Intn(f.Capacity*2/3+1), open, open+r.Intn(impl.MaxClock-open+1), r.Intn(slowest+1))
		if r.Intn(3) > 0 {
			s.Open = 0
		}
		f.Stops = append(f.Stops, s)
	}
	for range n + 1 {
		f.Times = append(f.Times, randomNumbers(r, n+1, 0, slowest))
	}
	return f
}

// validFleets returns fleets of all sizes.
func validFleets() []impl.Fleet {
	list := edgeFleets()
	r := numbers()
	for n := range 180 {
		list = append(list, randomFleet(r, n%(impl.MaxStops+1)))
	}
	return list
}

// invalidFleets returns fleets with one fault each.
func invalidFleets() []impl.Fleet {
	base := withCapacity(easyFleet(impl.MaxStops, 7), 9)
	list := []impl.Fleet{{}, {Times: table(0, 1, 0)}, {Times: table(1, 0, 0)}, {Times: table(2, 1, 0)}, {Times: table(1, 2, 0)}, {Times: table(2, 2, 0)}, {Stops: easyStops(1)}, {Stops: easyStops(1), Times: table(1, 1, 0)}, {Stops: easyStops(2), Times: table(2, 3, 0)}, {Stops: easyStops(2), Times: table(3, 2, 0)}, {Stops: easyStops(2), Times: table(4, 3, 0)}, {Stops: easyStops(2), Times: table(3, 4, 0)}, {Stops: easyStops(2), Times: table(4, 4, 0)}, easyFleet(impl.MaxStops+1, 0), easyFleet(70, 1), {Stops: easyStops(impl.MaxStops + 1), Times: table(6, 6, 0)}, {Stops: easyStops(impl.MaxStops), Times: table(7, 7, 0)}}
	for _, v := range []int{-1, impl.MaxLoad + 1, greatestInt, leastInt} {
		list = append(list, withCapacity(base, v), withCapacity(easyFleet(0, 0), v))
	}
	for _, at := range []int{0, 3, 5} {
		for _, v := range []int{-1, impl.MaxTravel + 1, greatestInt, leastInt} {
			list = append(list, withTime(base, at, 0, v), withTime(base, 0, at, v), withTime(base, at, at, v), withTime(base, at, 5-at, v))
		}
		short, long := cloneFleet(base), cloneFleet(base)
		short.Times[at], long.Times[at] = short.Times[at][1:], append(long.Times[at], 1)
		list = append(list, short, long)
	}
	for _, at := range []int{0, 2, 4} {
		for _, s := range []impl.Stop{
			stop(-1, 0, 9, 1), stop(impl.MaxLoad+1, 0, 9, 1), stop(greatestInt, 0, 9, 1), stop(leastInt, 0, 9, 1), stop(1, -1, 9, 1), stop(1, leastInt, 9, 1), stop(1, 10, 9, 1), stop(1, 200, 199, 1), stop(1, 1, 0, 1), stop(1, 0, -1, 1), stop(1, -1, -1, 1), stop(1, leastInt, leastInt, 1), stop(1, greatestInt, 9, 1),
			stop(1, 0, impl.MaxClock+1, 1), stop(1, impl.MaxClock+1, impl.MaxClock+1, 1), stop(1, 0, greatestInt, 1), stop(1, greatestInt, greatestInt, 1), stop(1, 0, leastInt, 1), stop(1, 0, 9, -1), stop(1, 0, 9, impl.MaxTravel+1), stop(1, 0, 9, greatestInt), stop(1, 0, 9, leastInt),
		} {
			list = append(list, withStop(base, at, s))
		}
	}
	return list
}

// orders returns all lists of different numbers in 0..n-1 in lexicographic order.
func orders(n int) [][]int {
	list := [][]int{nil}
	// The list grows behind by those that are one longer.
	for i := 0; i < len(list); i++ {
		for k := range n {
			if !slices.Contains(list[i], k) {
				list = append(list, slices.Concat(list[i], ints(k)))
			}
		}
	}
	slices.SortFunc(list, slices.Compare)
	return list
}

// wrongRoutes returns lists that do not consist of different stops of n.
func wrongRoutes(n int) [][]int {
	list := [][]int{{n}, {n + 1}, {-1}, {greatestInt}, {leastInt}, {63}, {64}, {-64}, make([]int, 1000), slices.Repeat(ints(-1), 100)}
	for _, route := range orders(min(n, 3)) {
		list = append(list, append(slices.Clone(route), n), append(ints(n), route...), append(slices.Clone(route), -1), append(ints(leastInt), route...))
		for _, k := range route {
			list = append(list, append(slices.Clone(route), k), append(ints(k), route...))
		}
	}
	return list
}

// wantTimes returns what RouteTimes returns for different stops of a valid fleet: a clock that goes on by 1 shows where
// the vehicle is.
func wantTimes(f impl.Fleet, route []int) ([]int, bool) {
	var times []int
	place, arrival, load := 0, 0, 0
	for _, k := range route {
		arrival += f.Times[place][k+1]
		for arrival < f.Stops[k].Open {
			arrival++
		}
		times = append(times, arrival)
		load += f.Stops[k].Load
		if arrival > f.Stops[k].Close || load > f.Capacity {
			return nil, false
		}
		arrival += f.Stops[k].Service
		place = k + 1
	}
	return times, true
}

// travel returns the sum of the times between the places of a route with at least one stop.
func travel(f impl.Fleet, route []int) int {
	sum := f.Times[0][route[0]+1] + f.Times[route[len(route)-1]+1][0]
	for i := 1; i < len(route); i++ {
		sum += f.Times[route[i-1]+1][route[i]+1]
	}
	return sum
}

// wantRouteCost returns what RouteCost returns for different stops of a valid fleet.
func wantRouteCost(f impl.Fleet, route []int) int {
	if _, ok := wantTimes(f, route); !ok {
		return -1
	}
	if len(route) == 0 {
		return 0
	}
	return travel(f, route)
}

// wantBestRoute returns what BestRoute returns for stops of a valid fleet that ascend.
func wantBestRoute(f impl.Fleet, set []int) ([]int, int) {
	var best []int
	least := -1
	for _, route := range orders(len(f.Stops)) {
		if sorted := slices.Sorted(slices.Values(route)); !slices.Equal(sorted, set) {
			continue
		}
		cost := wantRouteCost(f, route)
		if cost >= 0 && (least < 0 || cost < least || cost == least && slices.Compare(route, best) < 0) {
			best, least = route, cost
		}
	}
	return best, least
}

func TestLimitsOfRoutes(t *testing.T) {
	if impl.MaxStops != 5 || impl.MaxLoad != 30 || impl.MaxClock != 200 || impl.MaxTravel != 50 {
		t.Error("the limits are wrong")
	}
}

func TestValidFleet(t *testing.T) {
	for _, f := range validFleets() {
		if !impl.ValidFleet(f) {
			t.Errorf("ValidFleet(%v) = false", f)
		}
	}
	for _, f := range invalidFleets() {
		if impl.ValidFleet(f) {
			t.Errorf("ValidFleet(%v) = true", f)
		}
	}
	f := easyFleet(impl.MaxStops, 1)
	for _, s := range []impl.Stop{{}, stop(0, 0, 0, 0), stop(impl.MaxLoad, 0, 0, 0), stop(0, impl.MaxClock, impl.MaxClock, 0), stop(0, 0, impl.MaxClock, 0), stop(0, 7, 7, 0), stop(0, 0, 0, impl.MaxTravel)} {
		for at := range f.Stops {
			if !impl.ValidFleet(withStop(f, at, s)) {
				t.Errorf("ValidFleet with the stop %v = false", s)
			}
		}
	}
	for from := range f.Times {
		for to := range f.Times {
			if !impl.ValidFleet(withTime(f, from, to, 0)) || !impl.ValidFleet(withTime(f, from, to, impl.MaxTravel)) {
				t.Errorf("ValidFleet with another time from %d to %d = false", from, to)
			}
		}
	}
}

func TestRouteTimes(t *testing.T) {
	possible, late, heavy, waits := 0, 0, 0, 0
	for _, f := range validFleets() {
		for _, route := range orders(len(f.Stops)) {
			want, ok := wantTimes(f, route)
			if got, done := impl.RouteTimes(f, route); done != ok || !slices.Equal(got, want) {
				t.Errorf("RouteTimes(%v, %v) = %v, %t, want %v, %t", f, route, got, done, want, ok)
			}
			_, light := wantTimes(withoutLoads(f), route)
			switch {
			case !ok && light:
				heavy++
			case !ok:
				late++
			default:
				possible++
			}
			for i, k := range route {
				if ok && want[i] == f.Stops[k].Open {
					waits++
				}
			}
		}
	}
	if possible < 1000 || late < 1000 || heavy < 1000 || waits < 100 {
		t.Errorf("%d routes are possible, %d late, %d too heavy, and %d services begin at Open", possible, late, heavy, waits)
	}
}

// withoutLoads returns a copy of a fleet whose stops have no loads.
func withoutLoads(f impl.Fleet) impl.Fleet {
	g := cloneFleet(f)
	for i := range g.Stops {
		g.Stops[i].Load = 0
	}
	return g
}

// waiting returns a fleet with a vehicle that waits: stop 1 opens late, and stop 2 is shut soon.
func waiting() impl.Fleet {
	return impl.Fleet{
		Stops:    []impl.Stop{stop(2, 0, 20, 2), stop(3, 10, 30, 1), stop(4, 0, 8, 0)},
		Times:    [][]int{{50, 5, 4, 6}, {5, 50, 3, 7}, {4, 3, 50, 2}, {6, 7, 2, 50}},
		Capacity: 7,
	}
}

func TestTimesOfRoutes(t *testing.T) {
	f, one := waiting(), withTime(easyFleet(1, 3), 0, 1, 7)
	for _, c := range []struct {
		of    impl.Fleet
		route []int
		want  []int
		ok    bool
		cost  int
	}{
		// Without stops nothing is driven, even if the depot is far from itself.
		{easyFleet(0, 0), nil, nil, true, 0}, {easyFleet(0, 50), nil, nil, true, 0}, {f, nil, nil, true, 0}, {f, ints(), nil, true, 0}, {one, nil, nil, true, 0},
		{one, ints(0), ints(7), true, 10}, {f, ints(0), ints(5), true, 10}, {f, ints(1), ints(10), true, 8}, {f, ints(2), ints(6), true, 12}, {f, ints(0, 1), ints(5, 10), true, 12}, {f, ints(1, 0), ints(10, 14), true, 12}, {f, ints(2, 1), ints(6, 10), true, 12}, {f, ints(2, 0), ints(6, 13), true, 18},
		// Stop 2 is shut, or the loads are too much.
		{f, ints(1, 2), nil, false, -1}, {f, ints(0, 2), nil, false, -1}, {f, ints(0, 1, 2), nil, false, -1}, {f, ints(2, 1, 0), nil, false, -1}, {withCapacity(f, 9), ints(2, 1, 0), ints(6, 10, 14), true, 16}, {withCapacity(f, 8), ints(2, 1, 0), nil, false, -1}, {withCapacity(f, 4), ints(2), ints(6), true, 12}, {withCapacity(f, 3), ints(2), nil, false, -1}, {withCapacity(f, 0), nil, nil, true, 0},
		// Stops that were served already, or that are none.
		{f, ints(0, 0), nil, false, -1}, {f, ints(0, 1, 0), nil, false, -1}, {f, ints(1, 1), nil, false, -1}, {f, ints(3), nil, false, -1}, {f, ints(-1), nil, false, -1}, {f, ints(0, 3), nil, false, -1}, {easyFleet(0, 0), ints(0), nil, false, -1},
		// A service begins exactly at Close, and one later; exactly at Open, before and after it.
		{withStop(one, 0, stop(0, 0, 7, 0)), ints(0), ints(7), true, 10}, {withStop(one, 0, stop(0, 0, 6, 0)), ints(0), nil, false, -1}, {withStop(one, 0, stop(0, 6, 9, 0)), ints(0), ints(7), true, 10}, {withStop(one, 0, stop(0, 7, 9, 0)), ints(0), ints(7), true, 10}, {withStop(one, 0, stop(0, 8, 9, 0)), ints(0), ints(8), true, 10}, {withStop(one, 0, stop(0, 9, 9, 0)), ints(0), ints(9), true, 10}, {withStop(one, 0, stop(0, 7, 7, 0)), ints(0), ints(7), true, 10}, {withStop(one, 0, stop(0, 6, 6, 0)), ints(0), nil, false, -1}, {withStop(one, 0, stop(0, 200, 200, 50)), ints(0), ints(200), true, 10},
		{withStop(f, 1, stop(3, 10, 10, 1)), ints(0, 1), ints(5, 10), true, 12}, {withStop(f, 1, stop(3, 11, 11, 1)), ints(0, 1), ints(5, 11), true, 12}, {withStop(f, 1, stop(3, 9, 9, 1)), ints(0, 1), nil, false, -1}, {withStop(f, 0, stop(2, 0, 14, 2)), ints(1, 0), ints(10, 14), true, 12}, {withStop(f, 0, stop(2, 0, 13, 2)), ints(1, 0), nil, false, -1},
		// A service may go on after Close, and a vehicle may be back after all windows.
		{impl.Fleet{Stops: []impl.Stop{stop(30, 0, 200, 50)}, Times: [][]int{{0, 50}, {50, 0}}, Capacity: 30}, ints(0), ints(50), true, 100}, {impl.Fleet{Stops: []impl.Stop{stop(0, 0, 50, 50), stop(0, 0, 150, 50)}, Times: table(3, 3, 50)}, ints(0, 1), ints(50, 150), true, 150}, {impl.Fleet{Stops: []impl.Stop{stop(0, 0, 50, 50), stop(0, 0, 149, 50)}, Times: table(3, 3, 50)}, ints(0, 1), nil, false, -1},
		{easyFleet(5, 40), ints(4, 3, 2, 1, 0), ints(40, 80, 120, 160, 200), true, 240}, {easyFleet(5, 41), ints(4, 3, 2, 1, 0), nil, false, -1}, {easyFleet(5, 41), ints(4, 3, 2, 1), ints(41, 82, 123, 164), true, 205}, {easyFleet(5, 50), ints(0, 1, 2, 3), ints(50, 100, 150, 200), true, 250},
	} {
		if got, ok := impl.RouteTimes(c.of, c.route); ok != c.ok || !slices.Equal(got, c.want) {
			t.Errorf("RouteTimes(%v, %v) = %v, %t, want %v, %t", c.of, c.route, got, ok, c.want, c.ok)
		}
		if got := impl.RouteCost(c.of, c.route); got != c.cost {
			t.Errorf("RouteCost(%v, %v) = %d, want %d", c.of, c.route, got, c.cost)
		}
	}
}

func TestRouteCost(t *testing.T) {
	for _, f := range validFleets() {
		for _, route := range orders(len(f.Stops)) {
			if got, want := impl.RouteCost(f, route), wantRouteCost(f, route); got != want {
				t.Errorf("RouteCost(%v, %v) = %d, want %d", f, route, got, want)
			}
		}
	}
}

func TestBestRoute(t *testing.T) {
	found, none := 0, 0
	for _, f := range validFleets() {
		for _, set := range subsets(len(f.Stops)) {
			want, cost := wantBestRoute(f, set)
			if got, n := impl.BestRoute(f, set); n != cost || !slices.Equal(got, want) {
				t.Errorf("BestRoute(%v, %v) = %v, %d, want %v, %d", f, set, got, n, want, cost)
			}
			if cost < 0 {
				none++
			} else if !slices.Equal(want, set) {
				found++
			}
		}
	}
	if found < 300 || none < 300 {
		t.Errorf("%d sets have a best route in another order, and %d have none", found, none)
	}
}

func TestBestRoutes(t *testing.T) {
	f := waiting()
	// The cheapest way through the stops 0 and 1 to stop 2 comes too late for stop 3.
	late := impl.Fleet{
		Stops: []impl.Stop{stop(0, 20, 40, 0), stop(0, 0, 40, 0), stop(0, 0, 40, 0), stop(0, 0, 28, 0)},
		Times: [][]int{{0, 1, 19, 50, 50}, {1, 0, 10, 5, 50}, {1, 1, 0, 1, 50}, {1, 50, 50, 0, 2}, {1, 50, 50, 50, 0}},
	}
	for _, c := range []struct {
		of   impl.Fleet
		set  []int
		want []int
		cost int
	}{
		{easyFleet(0, 0), nil, nil, 0}, {easyFleet(0, 50), nil, nil, 0}, {f, nil, nil, 0}, {withCapacity(f, 0), nil, nil, 0}, {easyFleet(5, 7), ints(3), ints(3), 14},
		{f, ints(0), ints(0), 10}, {f, ints(0, 1), ints(0, 1), 12}, {f, ints(1, 2), ints(2, 1), 12}, {f, ints(0, 2), ints(2, 0), 18}, {f, ints(0, 1, 2), nil, -1}, {withCapacity(f, 9), ints(0, 1, 2), ints(2, 1, 0), 16},
		{late, ints(0, 1), ints(0, 1), 12}, {late, ints(0, 1, 2), ints(0, 1, 2), 13}, {late, ints(0, 1, 2, 3), ints(1, 0, 2, 3), 28}, {withStop(late, 3, stop(0, 0, 26, 0)), ints(0, 1, 2, 3), nil, -1}, {withStop(late, 3, stop(0, 0, 33, 0)), ints(0, 1, 2, 3), ints(0, 1, 2, 3), 15},
		// Of the same cost the lexicographically smallest one, also if a stop is shut that would be visited first.
		{easyFleet(5, 40), ints(0, 1, 2, 3, 4), ints(0, 1, 2, 3, 4), 240}, {easyFleet(5, 0), ints(1, 3, 4), ints(1, 3, 4), 0}, {withTime(easyFleet(3, 4), 0, 1, 5), ints(0, 1, 2), ints(1, 0, 2), 16}, {withTime(easyFleet(3, 4), 3, 0, 3), ints(0, 1, 2), ints(0, 1, 2), 15}, {withTime(easyFleet(3, 4), 1, 0, 3), ints(0, 1, 2), ints(1, 2, 0), 15}, {withStop(easyFleet(3, 4), 2, stop(0, 0, 4, 0)), ints(0, 1, 2), ints(2, 0, 1), 16}, {withStop(easyFleet(3, 4), 2, stop(0, 0, 8, 0)), ints(0, 1, 2), ints(0, 2, 1), 16}, {withStop(easyFleet(3, 4), 2, stop(0, 0, 3, 0)), ints(0, 1, 2), nil, -1},
		// A set holds no stop twice, and its stops ascend.
		{easyFleet(3, 4), ints(0, 0), nil, -1}, {easyFleet(3, 4), ints(0, 1, 1), nil, -1}, {easyFleet(3, 4), ints(1, 0), nil, -1}, {easyFleet(3, 4), ints(0, 3), nil, -1}, {easyFleet(3, 4), ints(-1, 0), nil, -1},
	} {
		if got, n := impl.BestRoute(c.of, c.set); n != c.cost || !slices.Equal(got, c.want) {
			t.Errorf("BestRoute(%v, %v) = %v, %d, want %v, %d", c.of, c.set, got, n, c.want, c.cost)
		}
	}
}

func TestRoutesWithInvalidArguments(t *testing.T) {
	checkRoute := func(f impl.Fleet, route []int) {
		if got, ok := impl.RouteTimes(f, route); ok || len(got) != 0 {
			t.Errorf("RouteTimes(%v, %v) = %v, %t", f, route, got, ok)
		}
		if got := impl.RouteCost(f, route); got != -1 {
			t.Errorf("RouteCost(%v, %v) = %d", f, route, got)
		}
	}
	checkSet := func(f impl.Fleet, set []int) {
		if got, n := impl.BestRoute(f, set); n != -1 || len(got) != 0 {
			t.Errorf("BestRoute(%v, %v) = %v, %d", f, set, got, n)
		}
	}
	for _, f := range invalidFleets() {
		for _, list := range [][]int{nil, {0}, {1}, {0, 1}, {0, 1, 2, 3, 4}, {-1}, {5}, {100}} {
			checkRoute(f, list)
			checkSet(f, list)
		}
	}
	for n := range impl.MaxStops + 1 {
		for _, route := range wrongRoutes(n) {
			checkRoute(easyFleet(n, 0), route)
		}
		for _, set := range append(wrongSets(n), wrongRoutes(n)...) {
			checkSet(easyFleet(n, 0), set)
		}
	}
}

func TestP91LargerVehiclesCanDoTheSame(t *testing.T) {
	for _, f := range validFleets() {
		for capacity := range impl.MaxLoad + 1 {
			if !impl.ValidFleet(withCapacity(f, capacity)) {
				t.Errorf("ValidFleet(%v) = false with the capacity %d", f, capacity)
			}
		}
		for _, set := range subsets(len(f.Stops)) {
			_, small := impl.BestRoute(f, set)
			if _, large := impl.BestRoute(withCapacity(f, impl.MaxLoad), set); small >= 0 && large != small {
				t.Errorf("BestRoute(%v, %v) costs %d, but %d with the greatest capacity", f, set, small, large)
			}
		}
	}
}

// forPossibleRoutes calls a function for all routes for which RouteTimes succeeds.
func forPossibleRoutes(t *testing.T, call func(f impl.Fleet, route []int, times []int)) {
	t.Helper()
	checked := 0
	for _, f := range validFleets() {
		for _, route := range orders(len(f.Stops)) {
			if times, ok := impl.RouteTimes(f, route); ok {
				if len(times) != len(route) {
					t.Fatalf("RouteTimes(%v, %v) = %v", f, route, times)
				}
				call(f, route, times)
				checked++
			}
		}
	}
	if checked < 1000 {
		t.Errorf("only %d routes are possible", checked)
	}
}

func TestP92ServicesBeginInTheirWindows(t *testing.T) {
	forPossibleRoutes(t, func(f impl.Fleet, route []int, times []int) {
		place, leave := 0, 0
		for i, k := range route {
			s := f.Stops[k]
			if !within(times[i], s.Open, s.Close) || times[i] < leave+f.Times[place][k+1] {
				t.Errorf("RouteTimes(%v, %v) = %v", f, route, times)
			}
			place, leave = k+1, times[i]+s.Service
		}
	})
}

func TestP93RoutesBeginLikeTheirBeginnings(t *testing.T) {
	forPossibleRoutes(t, func(f impl.Fleet, route []int, times []int) {
		for n := range route {
			if got, ok := impl.RouteTimes(f, route[:n]); !ok || !slices.Equal(got, times[:n]) {
				t.Errorf("RouteTimes(%v, %v) = %v, but %v, %t for the first %d", f, route, times, got, ok, n)
			}
		}
	})
}

func TestP94CostsAreTravelTimes(t *testing.T) {
	forPossibleRoutes(t, func(f impl.Fleet, route []int, times []int) {
		want := 0
		if len(route) > 0 {
			want = travel(f, route)
		}
		open := cloneFleet(f)
		for i, k := range route {
			open.Stops[k].Open, open.Stops[k].Close = times[i], times[i]
		}
		if cost, other := impl.RouteCost(f, route), impl.RouteCost(open, route); cost != want || other != want {
			t.Errorf("RouteCost(%v, %v) = %d, and %d with other windows, want %d", f, route, cost, other, want)
		}
	})
}

func TestP95NoOrderIsCheaper(t *testing.T) {
	exchanged := 0
	for _, f := range validFleets() {
		for _, set := range subsets(len(f.Stops)) {
			best, n := impl.BestRoute(f, set)
			if n < 0 {
				continue
			}
			if sorted := slices.Sorted(slices.Values(best)); !slices.Equal(sorted, set) || impl.RouteCost(f, best) != n {
				t.Errorf("BestRoute(%v, %v) = %v, %d", f, set, best, n)
			}
			for i := range best {
				for k := range i {
					other := slices.Clone(best)
					other[i], other[k] = other[k], other[i]
					if cost := impl.RouteCost(f, other); cost >= 0 {
						exchanged++
						if cost < n || cost == n && slices.Compare(other, best) < 0 {
							t.Errorf("BestRoute(%v, %v) = %v, %d, but %v costs %d", f, set, best, n, other, cost)
						}
					}
				}
			}
		}
	}
	if exchanged < 300 {
		t.Errorf("only %d orders are possible", exchanged)
	}
}

func TestP96TheOrderOfTheNumbersIsAnOrder(t *testing.T) {
	cheaper := 0
	for _, f := range validFleets() {
		for _, set := range subsets(len(f.Stops)) {
			_, best := impl.BestRoute(f, set)
			cost := impl.RouteCost(f, set)
			if cost >= 0 && !within(best, 0, cost) {
				t.Errorf("BestRoute(%v, %v) costs %d, but the stops in their order %d", f, set, best, cost)
			}
			if best < cost {
				cheaper++
			}
		}
	}
	if cheaper < 100 {
		t.Errorf("only %d routes are cheaper in another order", cheaper)
	}
}

func TestRoutesAreNotChangedAndNotShared(t *testing.T) {
	for _, f := range append(validFleets(), invalidFleets()...) {
		n := min(len(f.Stops), impl.MaxStops)
		for _, set := range [][]int{nil, subsets(n)[power(2, n)-1], subsets(n)[power(2, n)/2]} {
			g, list := spareFleet(f), spare(set)
			checkMemory(t, "a function of chapter 15", []any{g, list}, func() []any {
				times, ok := impl.RouteTimes(g, list)
				best, cost := impl.BestRoute(g, list)
				return []any{impl.ValidFleet(g), times, ok, impl.RouteCost(g, list), best, cost}
			})
		}
	}
}
