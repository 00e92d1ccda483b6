package tests

import (
	"math/rand"
	"slices"
	"testing"

	"loop.example/integerplanner/impl"
)

// label returns a label.
func label(at int, mask int, time int, load int, cost int) impl.Label {
	return impl.Label{At: at, Mask: mask, Time: time, Load: load, Cost: cost}
}

// spareLabels returns a copy of labels with marks in its spare capacity.
func spareLabels(list []impl.Label) []impl.Label {
	m := label(mark, mark, mark, mark, mark)
	long := slices.Concat(list, []impl.Label{m, m})
	return long[:len(list)]
}

// prizeLists returns valid prizes of n stops.
func prizeLists(r *rand.Rand, n int) [][]int {
	list := [][]int{slices.Repeat(ints(0), n), slices.Repeat(ints(impl.MaxPrize), n), slices.Repeat(ints(-impl.MaxPrize), n)}
	for _, most := range []int{2, 10, 60, impl.MaxPrize} {
		list = append(list, randomNumbers(r, n, -most, most), randomNumbers(r, n, 0, most))
	}
	return list
}

// invalidPrizes returns lists that are not one valid prize for each of n stops.
func invalidPrizes(n int) [][]int {
	list := [][]int{make([]int, n+1), make([]int, 1000)}
	if n > 0 {
		list = append(list, make([]int, n-1))
	}
	for at := range n {
		for _, v := range []int{impl.MaxPrize + 1, -impl.MaxPrize - 1, greatestInt, leastInt} {
			list = append(list, changed(make([]int, n), at, v))
		}
	}
	return list
}

// sumOfMask returns the sum of 2^k over some numbers k.
func sumOfMask(list []int) int {
	sum := 0
	for _, k := range list {
		sum += power(2, k)
	}
	return sum
}

// inMask reports whether a mask that is not negative has the digit of a number.
func inMask(mask int, k int) bool {
	return mask/power(2, k)%2 == 1
}

// wantValidLabel reports whether a label is valid for n stops.
func wantValidLabel(n int, l impl.Label) bool {
	return within(l.At, 0, n) && within(l.Mask, 0, power(2, n)-1) && (l.At == 0 || inMask(l.Mask, l.At-1)) && within(l.Time, 0, impl.MaxTime) && within(l.Load, 0, impl.MaxLoad) && within(l.Cost, -impl.MaxTime, impl.MaxTime)
}

// wantLabel returns what ExtendLabel returns for a valid fleet, valid prizes, a valid label and the number of a stop.
func wantLabel(f impl.Fleet, prizes []int, l impl.Label, k int) (impl.Label, bool) {
	s, way := f.Stops[k], f.Times[l.At][k+1]
	begin := max(l.Time+way, s.Open)
	next := label(k+1, l.Mask+power(2, k), begin+s.Service, l.Load+s.Load, l.Cost+way-prizes[k])
	if inMask(l.Mask, k) || begin > s.Close || next.Load > f.Capacity || !wantValidLabel(len(f.Stops), next) {
		return impl.Label{}, false
	}
	return next, true
}

// labelsFor returns valid labels for n stops: those of the depot, at the limits, and others with early and late times.
func labelsFor(r *rand.Rand, n int) []impl.Label {
	all := power(2, n) - 1
	list := []impl.Label{{}, label(0, all, 0, 0, 0), label(0, 0, impl.MaxTime, 0, 0), label(0, 0, 0, impl.MaxLoad, 0), label(0, 0, 0, 0, impl.MaxTime), label(0, 0, 0, 0, -impl.MaxTime), label(0, all/2, 9, 0, 0)}
	for k := range n {
		list = append(list, label(k+1, power(2, k), 0, 0, 0), label(k+1, all, impl.MaxTime, impl.MaxLoad, impl.MaxTime), label(k+1, power(2, k), 1, 0, impl.MaxTime), label(k+1, power(2, k), 1, 0, -impl.MaxTime))
	}
	for range 40 {
		l := label(r.Intn(n+1), r.Intn(all+1), r.Intn([]int{9, 90, impl.MaxClock + 1}[r.Intn(3)]), r.Intn([]int{5, impl.MaxLoad + 1}[r.Intn(2)]), r.Intn(2001)-1000)
		if l.At > 0 && !inMask(l.Mask, l.At-1) {
			l.Mask += power(2, l.At-1)
		}
		list = append(list, l)
	}
	return list
}

// invalidLabels returns labels for n stops with one fault each.
func invalidLabels(n int) []impl.Label {
	list := []impl.Label{label(0, power(2, n), 0, 0, 0), label(n+1, power(2, n), 0, 0, 0), label(n+1, power(2, n)-1, 0, 0, 0)}
	for _, v := range []int{greatestInt, leastInt} {
		list = append(list, label(v, 0, 0, 0, 0), label(0, v, 0, 0, 0), label(0, 0, v, 0, 0), label(0, 0, 0, v, 0), label(0, 0, 0, 0, v))
	}
	list = append(list, label(-1, 0, 0, 0, 0), label(0, -1, 0, 0, 0), label(0, 0, -1, 0, 0), label(0, 0, 0, -1, 0), label(0, 0, impl.MaxTime+1, 0, 0), label(0, 0, 0, impl.MaxLoad+1, 0), label(0, 0, 0, 0, impl.MaxTime+1), label(0, 0, 0, 0, -impl.MaxTime-1))
	for k := range n {
		// The digit of the stop itself is missing, or there is one more.
		list = append(list, label(k+1, 0, 0, 0, 0), label(k+1, power(2, n)-1-power(2, k), 0, 0, 0), label(k+1, power(2, n)+power(2, k), 0, 0, 0))
	}
	return list
}

func TestLimitsOfLabels(t *testing.T) {
	if impl.MaxPrize != 999 || impl.MaxTime != 9999 || impl.MaxMask != 31 || impl.MaxLabels != 20 {
		t.Error("the limits are wrong")
	}
}

func TestExtendLabel(t *testing.T) {
	r := numbers()
	possible, not := 0, 0
	for _, f := range validFleets() {
		n := len(f.Stops)
		for _, prizes := range prizeLists(r, n) {
			for _, l := range labelsFor(r, n) {
				if !wantValidLabel(n, l) {
					t.Fatalf("the label %v is not valid for %d stops", l, n)
				}
				for k := range n {
					want, ok := wantLabel(f, prizes, l, k)
					if got, done := impl.ExtendLabel(f, prizes, l, k); got != want || done != ok {
						t.Errorf("ExtendLabel(%v, %v, %v, %d) = %v, %t, want %v, %t", f, prizes, l, k, got, done, want, ok)
					}
					if ok {
						possible++
					} else {
						not++
					}
				}
			}
		}
	}
	if possible < 5000 || not < 5000 {
		t.Errorf("%d labels can be extended, and %d cannot", possible, not)
	}
}

func TestExtendedLabels(t *testing.T) {
	f := waiting()
	f.Stops[1].Close = 100
	prizes := ints(9, -4, 999)
	even := easyFleet(2, 3)
	for _, c := range []struct {
		of     impl.Fleet
		prizes []int
		from   impl.Label
		stop   int
		want   impl.Label
		ok     bool
	}{
		{f, prizes, label(0, 0, 0, 0, 0), 0, label(1, 1, 7, 2, -4), true}, {f, prizes, label(0, 0, 0, 0, 0), 1, label(2, 2, 11, 3, 8), true}, {f, prizes, label(0, 0, 0, 0, 0), 2, label(3, 4, 6, 4, -993), true}, {f, prizes, label(1, 1, 7, 2, -4), 1, label(2, 3, 11, 5, 3), true},
		// A label may leave the depot later, with stops and a load.
		{f, prizes, label(0, 2, 14, 3, 70), 0, label(1, 3, 21, 5, 66), true}, {f, prizes, label(0, 6, 0, 0, 0), 0, label(1, 7, 7, 2, -4), true}, {f, prizes, label(0, 7, 0, 0, 0), 0, impl.Label{}, false}, {f, prizes, label(0, 1, 0, 0, 0), 0, impl.Label{}, false}, {f, prizes, label(1, 1, 0, 0, 0), 0, impl.Label{}, false}, {f, prizes, label(2, 3, 0, 0, 0), 0, impl.Label{}, false},
		// A service begins exactly at Close, or would one later.
		{f, prizes, label(0, 0, 15, 0, 0), 0, label(1, 1, 22, 2, -4), true}, {f, prizes, label(0, 0, 16, 0, 0), 0, impl.Label{}, false}, {f, prizes, label(1, 1, 1, 0, 0), 2, label(3, 5, 8, 4, -992), true}, {f, prizes, label(1, 1, 2, 0, 0), 2, impl.Label{}, false}, {f, prizes, label(0, 0, impl.MaxTime, 0, 0), 0, impl.Label{}, false},
		// It waits for Open, is there just then, or later.
		{f, prizes, label(1, 1, 6, 0, 0), 1, label(2, 3, 11, 3, 7), true}, {f, prizes, label(1, 1, 7, 0, 0), 1, label(2, 3, 11, 3, 7), true}, {f, prizes, label(1, 1, 8, 0, 0), 1, label(2, 3, 12, 3, 7), true},
		// The load is that of the vehicle, or one more, also if the stop has none.
		{f, prizes, label(0, 0, 0, 5, 0), 0, label(1, 1, 7, 7, -4), true}, {f, prizes, label(0, 0, 0, 6, 0), 0, impl.Label{}, false}, {withCapacity(even, 29), ints(0, 0), label(0, 0, 0, 29, 0), 0, label(1, 1, 3, 29, 3), true}, {withCapacity(even, 29), ints(0, 0), label(0, 0, 0, 30, 0), 0, impl.Label{}, false}, {withCapacity(even, 30), ints(0, 0), label(0, 0, 0, 30, 0), 0, label(1, 1, 3, 30, 3), true}, {even, ints(0, 0), label(0, 0, 0, 1, 0), 0, impl.Label{}, false},
		// The cost of the result is at its limits, or one more.
		{even, ints(0, 0), label(0, 0, 0, 0, 9996), 0, label(1, 1, 3, 0, 9999), true}, {even, ints(0, 0), label(0, 0, 0, 0, 9997), 0, impl.Label{}, false}, {even, ints(4, 0), label(0, 0, 0, 0, -9998), 0, label(1, 1, 3, 0, -9999), true}, {even, ints(4, 0), label(0, 0, 0, 0, -9999), 0, impl.Label{}, false}, {even, ints(999, 0), label(0, 0, 0, 0, 9999), 0, label(1, 1, 3, 0, 9003), true}, {even, ints(-999, 0), label(0, 0, 0, 0, -9999), 0, label(1, 1, 3, 0, -8997), true}, {even, ints(-999, 0), label(0, 0, 0, 0, 9999), 0, impl.Label{}, false},
		{impl.Fleet{Stops: []impl.Stop{stop(30, 200, 200, 50)}, Times: table(2, 2, 50), Capacity: 30}, ints(999), label(0, 0, 150, 0, 0), 0, label(1, 1, 250, 30, -949), true}, {impl.Fleet{Stops: []impl.Stop{stop(30, 200, 200, 50)}, Times: table(2, 2, 50), Capacity: 30}, ints(999), label(0, 0, 151, 0, 0), 0, impl.Label{}, false},
	} {
		if got, ok := impl.ExtendLabel(c.of, c.prizes, c.from, c.stop); got != c.want || ok != c.ok {
			t.Errorf("ExtendLabel(%v, %v, %v, %d) = %v, %t, want %v, %t", c.of, c.prizes, c.from, c.stop, got, ok, c.want, c.ok)
		}
	}
}

// wantDominates returns what Dominates returns.
func wantDominates(a impl.Label, b impl.Label) bool {
	for _, l := range []impl.Label{a, b} {
		if !within(l.Mask, 0, impl.MaxMask) {
			return false
		}
	}
	for k := range impl.MaxStops {
		if inMask(a.Mask, k) && !inMask(b.Mask, k) {
			return false
		}
	}
	return a.At == b.At && a.Time <= b.Time && a.Load <= b.Load && a.Cost <= b.Cost
}

// similarLabels returns labels that often dominate each other, or are equal; some are not valid.
func similarLabels(r *rand.Rand, n int) []impl.Label {
	var list []impl.Label
	for range n {
		l := label(r.Intn(2), []int{0, 1, 2, 3, 7, 16, 31}[r.Intn(7)], r.Intn(3), r.Intn(2), r.Intn(3)-1)
		if r.Intn(9) == 0 {
			l.Mask = []int{-1, 32, 33, -31, 64, leastInt, greatestInt}[r.Intn(7)]
		}
		if len(list) > 0 && r.Intn(4) == 0 {
			l = list[r.Intn(len(list))]
		}
		list = append(list, l)
	}
	return list
}

// lowLabels returns labels with all masks, and with numbers that no valid label has.
func lowLabels() []impl.Label {
	list := similarLabels(numbers(), 40)
	for mask := -2; mask <= impl.MaxMask+2; mask++ {
		list = append(list, label(1, mask, 1, 1, 1))
	}
	return append(list, label(greatestInt, 1, greatestInt, greatestInt, greatestInt), label(leastInt, 1, leastInt, leastInt, leastInt), label(greatestInt, 1, leastInt, leastInt, leastInt), label(leastInt, 1, greatestInt, greatestInt, greatestInt), label(1, leastInt, 1, 1, 1), label(1, greatestInt, 1, 1, 1), label(-7, 3, -9, -9, -9))
}

func TestDominates(t *testing.T) {
	dominate := 0
	for _, a := range lowLabels() {
		for _, b := range lowLabels() {
			want := wantDominates(a, b)
			if got := impl.Dominates(a, b); got != want {
				t.Errorf("Dominates(%v, %v) = %t", a, b, got)
			}
			if want && a != b {
				dominate++
			}
		}
	}
	if dominate < 300 {
		t.Errorf("only %d labels dominate", dominate)
	}
}

func TestDominance(t *testing.T) {
	l := label(2, 6, 40, 7, -3)
	for _, c := range []struct {
		a, b impl.Label
		want bool
	}{
		{impl.Label{}, impl.Label{}, true}, {l, l, true}, {label(2, 2, 40, 7, -3), l, true}, {label(2, 4, 40, 7, -3), l, true}, {label(2, 0, 40, 7, -3), l, true}, {label(2, 7, 40, 7, -3), l, false}, {label(2, 1, 40, 7, -3), l, false}, {label(2, 9, 40, 7, -3), l, false},
		{label(2, 6, 39, 7, -3), l, true}, {label(2, 6, 41, 7, -3), l, false}, {label(2, 6, 40, 6, -3), l, true}, {label(2, 6, 40, 8, -3), l, false}, {label(2, 6, 40, 7, -4), l, true}, {label(2, 6, 40, 7, -2), l, false}, {label(1, 6, 40, 7, -3), l, false}, {label(3, 6, 40, 7, -3), l, false}, {label(2, 2, 1, 1, -2), l, false},
		// Only the masks and the places have to fit.
		{label(9, 31, -5, -5, 99999), label(9, 31, -5, -4, 99999), true}, {label(9, 32, 0, 0, 0), label(9, 32, 0, 0, 0), false}, {label(9, 0, 0, 0, 0), label(9, 32, 0, 0, 0), false}, {label(9, -1, 0, 0, 0), label(9, 31, 0, 0, 0), false}, {label(9, 0, 0, 0, 0), label(9, -1, 0, 0, 0), false}, {label(9, -32, 0, 0, 0), label(9, -32, 0, 0, 0), false}, {label(9, leastInt, 0, 0, 0), label(9, 0, 0, 0, 0), false}, {label(9, 33, 0, 0, 0), label(9, 1, 0, 0, 0), false}, {label(-9, 0, 0, 0, 0), label(-9, 31, 0, 0, 0), true},
	} {
		if got := impl.Dominates(c.a, c.b); got != c.want {
			t.Errorf("Dominates(%v, %v) = %t", c.a, c.b, got)
		}
	}
}

// wantPareto returns what ParetoLabels returns for at most MaxLabels labels.
func wantPareto(list []impl.Label) []impl.Label {
	var left []impl.Label
	for i, l := range list {
		stays := slices.Index(list, l) == i
		for _, other := range list {
			stays = stays && (other == l || !wantDominates(other, l))
		}
		if stays {
			left = append(left, l)
		}
	}
	return left
}

// labelLists returns lists of at most MaxLabels labels.
func labelLists() [][]impl.Label {
	r := numbers()
	list := [][]impl.Label{nil, make([]impl.Label, impl.MaxLabels)}
	for n := range 400 {
		list = append(list, similarLabels(r, n%(impl.MaxLabels+1)))
	}
	return list
}

func TestParetoLabels(t *testing.T) {
	fewer := 0
	for _, list := range labelLists() {
		want := wantPareto(list)
		if got := impl.ParetoLabels(list); !slices.Equal(got, want) {
			t.Errorf("ParetoLabels(%v) = %v, want %v", list, got, want)
		}
		if len(want) < len(list) {
			fewer++
		}
	}
	if fewer < 100 {
		t.Errorf("only %d lists have labels that are dominated", fewer)
	}
	a, b, c := label(1, 1, 5, 5, 5), label(1, 3, 5, 5, 5), label(1, 1, 4, 5, 6)
	wrong := label(1, -1, 5, 5, 5)
	for _, p := range []struct{ list, want []impl.Label }{
		{nil, nil}, {[]impl.Label{a}, []impl.Label{a}}, {[]impl.Label{a, a, a}, []impl.Label{a}}, {[]impl.Label{a, b}, []impl.Label{a}}, {[]impl.Label{b, a}, []impl.Label{a}}, {[]impl.Label{b, b}, []impl.Label{b}}, {[]impl.Label{a, c}, []impl.Label{a, c}}, {[]impl.Label{c, a}, []impl.Label{c, a}}, {[]impl.Label{c, b, a, c, b, a}, []impl.Label{c, a}}, {[]impl.Label{a, c, a, b, c}, []impl.Label{a, c}},
		// Labels that dominate nothing, not even themselves, stay as well.
		{[]impl.Label{wrong, a, wrong}, []impl.Label{wrong, a}}, {[]impl.Label{label(1, 32, 9, 9, 9), label(1, 32, 1, 1, 1), a}, []impl.Label{label(1, 32, 9, 9, 9), label(1, 32, 1, 1, 1), a}},
		{slices.Repeat([]impl.Label{b}, 20), []impl.Label{b}}, {append(slices.Repeat([]impl.Label{b}, 19), a), []impl.Label{a}}, {slices.Repeat([]impl.Label{b}, 21), nil}, {append(slices.Repeat([]impl.Label{b}, 20), a), nil}, {make([]impl.Label, 1000), nil},
	} {
		if got := impl.ParetoLabels(p.list); !slices.Equal(got, p.want) {
			t.Errorf("ParetoLabels(%v) = %v, want %v", p.list, got, p.want)
		}
	}
}

// wantPriced returns what BestPriced returns for a valid fleet and valid prizes.
func wantPriced(f impl.Fleet, prizes []int) ([]int, int, bool) {
	var best []int
	least, ok := 0, false
	for _, route := range orders(len(f.Stops))[1:] {
		cost := wantRouteCost(f, route)
		if cost < 0 {
			continue
		}
		for _, k := range route {
			cost -= prizes[k]
		}
		if !ok || cost < least || cost == least && slices.Compare(route, best) < 0 {
			best, least, ok = route, cost, true
		}
	}
	return best, least, ok
}

func TestBestPriced(t *testing.T) {
	r := numbers()
	long, none := 0, 0
	for _, f := range validFleets() {
		for _, prizes := range prizeLists(r, len(f.Stops)) {
			want, least, ok := wantPriced(f, prizes)
			if got, n, found := impl.BestPriced(f, prizes); n != least || found != ok || !slices.Equal(got, want) {
				t.Errorf("BestPriced(%v, %v) = %v, %d, %t, want %v, %d, %t", f, prizes, got, n, found, want, least, ok)
			}
			if len(want) > 1 {
				long++
			}
			if !ok {
				none++
			}
		}
	}
	if long < 200 || none < 50 {
		t.Errorf("%d routes have several stops, and %d fleets have no route", long, none)
	}
}

func TestPricedRoutes(t *testing.T) {
	f := waiting()
	for _, c := range []struct {
		of     impl.Fleet
		prizes []int
		want   []int
		value  int
		ok     bool
	}{
		// Fleets without stops, or without a route that has one.
		{easyFleet(0, 0), nil, nil, 0, false}, {easyFleet(0, 50), nil, nil, 0, false}, {withStop(easyFleet(1, 3), 0, stop(0, 0, 2, 0)), ints(999), nil, 0, false}, {withStop(easyFleet(1, 3), 0, stop(1, 0, 9, 0)), ints(999), nil, 0, false}, {impl.Fleet{Stops: slices.Repeat([]impl.Stop{stop(0, 0, 0, 0)}, 5), Times: table(6, 6, 1)}, ints(9, 9, 9, 9, 9), nil, 0, false},
		// A route is told even if nothing is gained by it.
		{easyFleet(1, 3), ints(0), ints(0), 6, true}, {easyFleet(1, 3), ints(6), ints(0), 0, true}, {easyFleet(1, 3), ints(-999), ints(0), 1005, true}, {easyFleet(1, 3), ints(999), ints(0), -993, true}, {easyFleet(2, 3), ints(-5, -4), ints(1), 10, true}, {easyFleet(5, 1), ints(999, 999, 999, 999, 999), ints(0, 1, 2, 3, 4), 6 - 4995, true}, {easyFleet(5, 0), ints(-999, -999, -999, -999, -999), ints(0), 999, true},
		{f, ints(9, 9, 20), ints(2, 1), -17, true}, {f, ints(9, 9, 0), ints(0, 1), -6, true}, {f, ints(0, 0, 0), ints(1), 8, true},
		// Of the same value the lexicographically smallest one: a shorter one that others begin with, or a longer one that begins with a smaller stop.
		{easyFleet(2, 3), ints(3, 3), ints(0), 3, true}, {easyFleet(2, 0), ints(0, 0), ints(0), 0, true}, {easyFleet(3, 2), ints(1, 3, 2), ints(1), 1, true}, {easyFleet(3, 2), ints(1, 2, 4), ints(1, 2), 0, true}, {easyFleet(3, 2), ints(2, 2, 4), ints(0, 1, 2), 0, true}, {easyFleet(3, 2), ints(1, 4, 3), ints(1, 2), -1, true}, {easyFleet(3, 2), ints(2, 4, 3), ints(0, 1, 2), -1, true},
	} {
		if got, n, ok := impl.BestPriced(c.of, c.prizes); n != c.value || ok != c.ok || !slices.Equal(got, c.want) {
			t.Errorf("BestPriced(%v, %v) = %v, %d, %t, want %v, %d, %t", c.of, c.prizes, got, n, ok, c.want, c.value, c.ok)
		}
	}
}

func TestCountRoutes(t *testing.T) {
	for _, f := range validFleets() {
		want := 0
		for _, route := range orders(len(f.Stops))[1:] {
			if _, ok := wantTimes(f, route); ok {
				want++
			}
		}
		if got := impl.CountRoutes(f); got != want {
			t.Errorf("CountRoutes(%v) = %d, want %d", f, got, want)
		}
	}
	for n, want := range []int{0, 1, 4, 15, 64, 325} {
		if got := impl.CountRoutes(easyFleet(n, 40)); got != want {
			t.Errorf("CountRoutes with %d stops = %d, want %d", n, got, want)
		}
	}
	f := easyFleet(3, 10)
	for _, c := range []struct {
		of   impl.Fleet
		want int
	}{
		{waiting(), 7}, {withCapacity(waiting(), 0), 0}, {withStop(f, 0, stop(0, 0, 10, 0)), 9}, {withStop(f, 0, stop(0, 0, 9, 0)), 4}, {withStop(f, 0, stop(0, 0, 20, 0)), 13}, {withStop(f, 1, stop(1, 0, 20, 0)), 4}, {withCapacity(withStop(f, 1, stop(1, 0, 200, 0)), 1), 15},
	} {
		if got := impl.CountRoutes(c.of); got != c.want {
			t.Errorf("CountRoutes(%v) = %d, want %d", c.of, got, c.want)
		}
	}
}

func TestLabelsWithInvalidArguments(t *testing.T) {
	checkExtend := func(f impl.Fleet, prizes []int, l impl.Label, k int) {
		if got, ok := impl.ExtendLabel(f, prizes, l, k); ok || got != (impl.Label{}) {
			t.Errorf("ExtendLabel(%v, %v, %v, %d) = %v, %t", f, prizes, l, k, got, ok)
		}
	}
	checkPriced := func(f impl.Fleet, prizes []int) {
		if got, n, ok := impl.BestPriced(f, prizes); ok || n != 0 || len(got) != 0 {
			t.Errorf("BestPriced(%v, %v) = %v, %d, %t", f, prizes, got, n, ok)
		}
	}
	for _, f := range invalidFleets() {
		prizes := make([]int, len(f.Stops))
		for _, k := range []int{0, 4, 5, -1} {
			checkExtend(f, prizes, impl.Label{}, k)
		}
		checkPriced(f, prizes)
		checkPriced(f, nil)
		if got := impl.CountRoutes(f); got != -1 {
			t.Errorf("CountRoutes(%v) = %d", f, got)
		}
	}
	for n := range impl.MaxStops + 1 {
		f := withCapacity(easyFleet(n, 0), impl.MaxLoad)
		for _, prizes := range invalidPrizes(n) {
			checkExtend(f, prizes, impl.Label{}, 0)
			checkPriced(f, prizes)
		}
		for _, l := range invalidLabels(n) {
			for k := range n {
				checkExtend(f, make([]int, n), l, k)
			}
		}
		for _, k := range []int{-1, n, n + 1, 62, 63, 64, -64, greatestInt, leastInt} {
			checkExtend(f, make([]int, n), impl.Label{}, k)
			checkExtend(f, make([]int, n), label(n, power(2, n)-1, 0, 0, 0), k)
		}
	}
}

func TestP97LabelsFollowRoutes(t *testing.T) {
	r := numbers()
	extended, ended := 0, 0
	for _, f := range validFleets() {
		prizes := prizeLists(r, len(f.Stops))[r.Intn(11)]
		for _, route := range orders(len(f.Stops)) {
			var l impl.Label
			for i, k := range route {
				next, ok := impl.ExtendLabel(f, prizes, l, k)
				times, possible := impl.RouteTimes(f, route[:i+1])
				if ok != possible {
					t.Errorf("ExtendLabel(%v, %v, %v, %d) = %v, %t, but RouteTimes(%v) = %v, %t", f, prizes, l, k, next, ok, route[:i+1], times, possible)
				}
				if !ok {
					ended++
					break
				}
				if next.Time != times[i]+f.Stops[k].Service || next.At != k+1 || next.Mask != sumOfMask(route[:i+1]) {
					t.Errorf("ExtendLabel(%v, %v, %v, %d) = %v, but RouteTimes(%v) = %v", f, prizes, l, k, next, route[:i+1], times)
				}
				l = next
				extended++
			}
		}
	}
	if extended < 1000 || ended < 1000 {
		t.Errorf("%d labels are extended, and %d not", extended, ended)
	}
}

func TestP98CostsAddUpAlongLabels(t *testing.T) {
	r := numbers()
	checked := 0
	for _, f := range validFleets() {
		for _, prizes := range prizeLists(r, len(f.Stops)) {
			for a := range f.Stops {
				for b := range f.Stops {
					first, _ := impl.ExtendLabel(f, prizes, impl.Label{}, a)
					second, ok := impl.ExtendLabel(f, prizes, first, b)
					if first.At == 0 || !ok {
						continue
					}
					checked++
					if a == b || second.Cost != f.Times[0][a+1]+f.Times[a+1][b+1]-prizes[a]-prizes[b] || second.Mask != power(2, a)+power(2, b) || second.Load != f.Stops[a].Load+f.Stops[b].Load {
						t.Errorf("the label of %v with %v at %d after %d is %v", f, prizes, b, a, second)
					}
				}
			}
		}
	}
	if checked < 1000 {
		t.Errorf("only %d routes have two stops", checked)
	}
}

func TestP99DominanceIsAPartialOrder(t *testing.T) {
	for _, a := range lowLabels() {
		if impl.Dominates(a, a) != within(a.Mask, 0, impl.MaxMask) {
			t.Errorf("Dominates(%v, %v) = %t", a, a, impl.Dominates(a, a))
		}
		for _, b := range lowLabels() {
			if !impl.Dominates(a, b) {
				continue
			}
			if impl.Dominates(b, a) && a != b {
				t.Errorf("%v and %v dominate each other", a, b)
			}
			for _, c := range similarLabels(numbers(), 20) {
				if impl.Dominates(b, c) && !impl.Dominates(a, c) {
					t.Errorf("%v dominates %v, and that %v", a, b, c)
				}
			}
		}
	}
}

func TestP100LessOfEverythingDominates(t *testing.T) {
	checked := 0
	for _, a := range lowLabels() {
		early, cheap, fresh := a, a, a
		early.Time, cheap.Cost, fresh.Mask = max(a.Time, leastInt+1)-1, max(a.Cost, leastInt+1)-1, 0
		for _, b := range lowLabels() {
			if !impl.Dominates(a, b) {
				continue
			}
			checked++
			if !impl.Dominates(early, b) || !impl.Dominates(cheap, b) || !impl.Dominates(fresh, b) {
				t.Errorf("%v dominates %v, but not with less", a, b)
			}
		}
	}
	if checked < 300 {
		t.Errorf("only %d labels dominate", checked)
	}
}

func TestP101OnlyLabelsThatAreNotDominatedAreLeft(t *testing.T) {
	for _, list := range labelLists() {
		left := impl.ParetoLabels(list)
		for i, l := range left {
			for k, other := range left {
				if i != k && (l == other || impl.Dominates(l, other)) {
					t.Errorf("ParetoLabels(%v) = %v, but %v dominates %v", list, left, l, other)
				}
			}
		}
		for _, l := range list {
			if !slices.Contains(left, l) && !slices.ContainsFunc(left, func(other impl.Label) bool { return impl.Dominates(other, l) }) {
				t.Errorf("ParetoLabels(%v) = %v, in which nothing dominates %v", list, left, l)
			}
		}
	}
}

func TestP102WhatIsLeftStays(t *testing.T) {
	for _, list := range labelLists() {
		left := impl.ParetoLabels(list)
		if again := impl.ParetoLabels(left); !slices.Equal(again, left) {
			t.Errorf("ParetoLabels(%v) = %v, but %v for that", list, left, again)
		}
	}
}

func TestP103TheBestRouteHasTheLeastReducedCost(t *testing.T) {
	r := numbers()
	for _, f := range validFleets() {
		n := len(f.Stops)
		for _, prizes := range prizeLists(r, n) {
			route, value, ok := impl.BestPriced(f, prizes)
			costs := impl.ReducedCosts(n, impl.RouteColumns(f), prizes)
			if ok != (len(costs) > 0) || ok && slices.Min(costs) != value {
				t.Errorf("BestPriced(%v, %v) = %v, %d, %t, but ReducedCosts are %v", f, prizes, route, value, ok, costs)
			}
		}
	}
}

func TestP104TheBestRouteIsPossible(t *testing.T) {
	r := numbers()
	for _, f := range validFleets() {
		n := len(f.Stops)
		for _, prizes := range prizeLists(r, n) {
			route, value, ok := impl.BestPriced(f, prizes)
			if !ok {
				continue
			}
			if cost := impl.RouteCost(f, route); cost < 0 || cost-sumOf(prizes, route) != value {
				t.Errorf("BestPriced(%v, %v) = %v, %d, but RouteCost is %d", f, prizes, route, value, cost)
			}
			for k := range n {
				more := changed(prizes, k, min(impl.MaxPrize, prizes[k]+1+r.Intn(9)))
				if _, other, still := impl.BestPriced(f, more); !still || other > value {
					t.Errorf("BestPriced(%v, %v) = %v, %d, but %d with %v", f, prizes, route, value, other, more)
				}
			}
		}
	}
}

func TestP105RoutesAreCountedBySets(t *testing.T) {
	more, none := 0, 0
	for _, f := range validFleets() {
		count, columns := impl.CountRoutes(f), len(impl.RouteColumns(f))
		if count < columns || (count == 0) != (columns == 0) {
			t.Errorf("CountRoutes(%v) = %d, but there are %d columns", f, count, columns)
		}
		if count > columns {
			more++
		}
		if count == 0 {
			none++
		}
	}
	if more < 50 || none < 10 {
		t.Errorf("%d fleets have several routes for a set, and %d have none", more, none)
	}
}

func TestLabelsAreNotChangedAndNotShared(t *testing.T) {
	for _, f := range append(validFleets(), invalidFleets()...) {
		g, prizes := spareFleet(f), spare(slices.Repeat(ints(12), len(f.Stops)))
		checkMemory(t, "a function of chapter 16", []any{g, prizes}, func() []any {
			l, ok := impl.ExtendLabel(g, prizes, impl.Label{}, 0)
			best, value, found := impl.BestPriced(g, prizes)
			return []any{l, ok, best, value, found, impl.CountRoutes(g)}
		})
	}
	for _, list := range append(labelLists(), make([]impl.Label, impl.MaxLabels+1)) {
		labels := spareLabels(list)
		checkMemory(t, "ParetoLabels", []any{labels}, func() []any { return []any{impl.ParetoLabels(labels)} })
	}
}
