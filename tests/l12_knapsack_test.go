package tests

import (
	"math/big"
	"slices"
	"testing"

	"loop.example/integerplanner/impl"
)

// subsets returns all sets of numbers in 0..n-1; the numbers of each set ascend.
func subsets(n int) [][]int {
	list := [][]int{nil}
	for k := range n {
		for _, set := range list {
			list = append(list, slices.Concat(set, ints(k)))
		}
	}
	return list
}

// sumOf returns the sum of the numbers at some places of a list.
func sumOf(list []int, places []int) int {
	sum := 0
	for _, i := range places {
		sum += list[i]
	}
	return sum
}

// choiceBefore reports whether a choice of items has the first item that only one of two choices has.
func choiceBefore(a []int, b []int) bool {
	for i := range impl.MaxItems {
		if slices.Contains(a, i) != slices.Contains(b, i) {
			return slices.Contains(a, i)
		}
	}
	return false
}

// validPackings returns valid items and capacities of all sizes: with equal values, weights or both, with items that
// do not fit alone, and at the limits.
func validPackings() []packing {
	list := []packing{
		{nil, nil, 0}, {nil, nil, 99}, {ints(0), ints(1), 0}, {ints(0), ints(1), 1}, {ints(99), ints(20), 19}, {ints(99), ints(20), 20}, {ints(99), ints(20), 99}, {ints(99), ints(20), 0},
		{slices.Repeat(ints(99), 10), slices.Repeat(ints(20), 10), 99}, {slices.Repeat(ints(99), 10), slices.Repeat(ints(1), 10), 99}, {slices.Repeat(ints(0), 10), slices.Repeat(ints(20), 10), 99}, {slices.Repeat(ints(7), 10), slices.Repeat(ints(7), 10), 48},
		{ints(0, 0, 0, 0), ints(5, 9, 3, 1), 9}, {ints(1, 0, 1, 0), ints(2, 1, 2, 1), 3}, {ints(10, 7, 6, 1), ints(6, 4, 4, 1), 8}, {ints(1, 2, 3, 4, 5, 6, 7, 8, 9, 10), ints(2, 4, 6, 8, 10, 12, 14, 16, 18, 20), 33},
	}
	r := numbers()
	for n := range 400 {
		size := n % (impl.MaxItems + 1)
		most := []int{1, 3, 12, impl.MaxValue}[r.Intn(4)]
		heavy := []int{2, 5, impl.MaxWeight}[r.Intn(3)]
		list = append(list, packing{randomNumbers(r, size, 0, most), randomNumbers(r, size, 1, heavy), r.Intn([]int{2, 5, 20, 40, 100}[r.Intn(5)])})
	}
	return list
}

// invalidWeights returns packings of items without values that have one fault each in their weights or their capacity.
func invalidWeights() []packing {
	list := []packing{{nil, slices.Repeat(ints(1), impl.MaxItems+1), 99}, {nil, slices.Repeat(ints(1), 1000), 0}}
	for _, v := range []int{-1, impl.MaxCapacity + 1, greatestInt, leastInt} {
		list = append(list, packing{nil, nil, v}, packing{nil, ints(20), v}, packing{nil, ints(1, 2, 3), v})
	}
	for _, v := range []int{0, -1, impl.MaxWeight + 1, greatestInt, leastInt} {
		list = append(list, packing{nil, ints(v), 0}, packing{nil, ints(v), 99})
		for i := range 3 {
			list = append(list, packing{nil, changed(ints(1, 2, 3), i, v), 5})
		}
		list = append(list, packing{nil, changed(slices.Repeat(ints(1), 10), 9, v), 99}, packing{nil, ints(v, v), 99})
	}
	return list
}

// invalidPackings returns items and capacities with one fault each.
func invalidPackings() []packing {
	list := []packing{
		{nil, ints(1), 5}, {ints(1), nil, 5}, {ints(1, 2), ints(1), 5}, {ints(1), ints(1, 2), 5}, {slices.Repeat(ints(1), 11), slices.Repeat(ints(1), 10), 5}, {slices.Repeat(ints(1), 10), slices.Repeat(ints(1), 11), 5},
	}
	for _, c := range invalidWeights() {
		list = append(list, packing{slices.Repeat(ints(1), len(c.weights)), c.weights, c.capacity})
	}
	for _, v := range []int{-1, impl.MaxValue + 1, greatestInt, leastInt} {
		list = append(list, packing{ints(v), ints(20), 0}, packing{changed(slices.Repeat(ints(1), 10), 9, v), slices.Repeat(ints(1), 10), 99})
		for i := range 3 {
			list = append(list, packing{changed(ints(1, 2, 3), i, v), ints(1, 2, 3), 5})
		}
	}
	return list
}

// wantBest returns what BestKnapsack returns for valid items and a valid capacity.
func wantBest(c packing) ([]int, int) {
	var best []int
	value := -1
	for _, set := range subsets(len(c.values)) {
		sum := sumOf(c.values, set)
		if sumOf(c.weights, set) <= c.capacity && (sum > value || sum == value && choiceBefore(set, best)) {
			best, value = set, sum
		}
	}
	return best, value
}

// wantDivided returns what KnapsackBound returns for valid items and a valid capacity. In one of the best choices at
// most one item is divided.
func wantDivided(c packing) impl.Rat {
	best := new(big.Rat)
	for _, set := range subsets(len(c.values)) {
		room := c.capacity - sumOf(c.weights, set)
		if room < 0 {
			continue
		}
		num, den := sumOf(c.values, set), 1
		for i, weight := range c.weights {
			sum := sumOf(c.values, set)*weight + min(room, weight)*c.values[i]
			if !slices.Contains(set, i) && sum*den > num*weight {
				num, den = sum, weight
			}
		}
		if q := big.NewRat(int64(num), int64(den)); q.Cmp(best) > 0 {
			best = q
		}
	}
	return rat(int(best.Num().Int64()), int(best.Denom().Int64()))
}

func TestLimitsOfKnapsacks(t *testing.T) {
	if impl.MaxItems != 10 || impl.MaxValue != 99 || impl.MaxWeight != 20 || impl.MaxCapacity != 99 {
		t.Error("the limits are wrong")
	}
}

func TestKnapsackTable(t *testing.T) {
	for _, c := range validPackings() {
		want := make([]int, c.capacity+1)
		for _, set := range subsets(len(c.values)) {
			for room := sumOf(c.weights, set); room <= c.capacity; room++ {
				want[room] = max(want[room], sumOf(c.values, set))
			}
		}
		if got := impl.KnapsackTable(c.values, c.weights, c.capacity); !slices.Equal(got, want) {
			t.Errorf("KnapsackTable(%v) = %v, want %v", c, got, want)
		}
	}
}

func TestBestKnapsack(t *testing.T) {
	for _, c := range validPackings() {
		want, value := wantBest(c)
		if got, n := impl.BestKnapsack(c.values, c.weights, c.capacity); n != value || !slices.Equal(got, want) {
			t.Errorf("BestKnapsack(%v) = %v, %d, want %v, %d", c, got, n, want, value)
		}
	}
}

func TestBestItems(t *testing.T) {
	for _, c := range []struct {
		of    packing
		want  []int
		value int
	}{
		{packing{nil, nil, 0}, nil, 0}, {packing{nil, nil, 99}, nil, 0}, {packing{ints(5), ints(20), 19}, nil, 0}, {packing{ints(5), ints(20), 20}, ints(0), 5}, {packing{ints(0), ints(20), 20}, ints(0), 0}, {packing{ints(0), ints(20), 19}, nil, 0},
		// Of equal sums the one with the first item, even if it has fewer items.
		{packing{ints(2, 1, 1), ints(2, 1, 1), 2}, ints(0), 2}, {packing{ints(1, 1, 2), ints(1, 1, 2), 2}, ints(0, 1), 2}, {packing{ints(1, 2, 1), ints(1, 2, 1), 2}, ints(0, 2), 2}, {packing{ints(3, 3, 3), ints(2, 1, 1), 2}, ints(1, 2), 6}, {packing{ints(3, 3, 3), ints(1, 2, 1), 2}, ints(0, 2), 6}, {packing{ints(4, 4), ints(9, 1), 9}, ints(0), 4},
		// Items without value are taken where there is room, and never instead of others.
		{packing{ints(0, 5), ints(1, 5), 5}, ints(1), 5}, {packing{ints(0, 5), ints(1, 5), 6}, ints(0, 1), 5}, {packing{ints(5, 0, 0), ints(5, 2, 1), 6}, ints(0, 2), 5}, {packing{ints(5, 0, 0), ints(5, 2, 1), 7}, ints(0, 1), 5}, {packing{ints(5, 0, 0), ints(5, 2, 1), 8}, ints(0, 1, 2), 5}, {packing{ints(0, 0, 0, 0), ints(5, 9, 3, 1), 9}, ints(0, 2, 3), 0},
		// Items that do not fit alone.
		{packing{ints(99, 1, 99, 1), ints(20, 3, 10, 4), 9}, ints(1, 3), 2}, {packing{ints(99, 99), ints(20, 20), 19}, nil, 0}, {packing{ints(10, 7, 6, 1), ints(6, 4, 4, 1), 8}, ints(1, 2), 13}, {packing{slices.Repeat(ints(99), 10), slices.Repeat(ints(20), 10), 99}, ints(0, 1, 2, 3), 396}, {packing{slices.Repeat(ints(99), 10), slices.Repeat(ints(9), 10), 99}, ints(0, 1, 2, 3, 4, 5, 6, 7, 8, 9), 990},
	} {
		if got, n := impl.BestKnapsack(c.of.values, c.of.weights, c.of.capacity); n != c.value || !slices.Equal(got, c.want) {
			t.Errorf("BestKnapsack(%v) = %v, %d, want %v, %d", c.of, got, n, c.want, c.value)
		}
	}
}

func TestKnapsackValue(t *testing.T) {
	fit, not := 0, 0
	for _, c := range validPackings() {
		for _, set := range subsets(len(c.values)) {
			want := -1
			if sumOf(c.weights, set) <= c.capacity {
				want = sumOf(c.values, set)
				fit++
			} else {
				not++
			}
			if got := impl.KnapsackValue(c.values, c.weights, c.capacity, set); got != want {
				t.Errorf("KnapsackValue(%v, %v) = %d, want %d", c, set, got, want)
			}
		}
	}
	if fit < 1000 || not < 1000 {
		t.Errorf("%d choices fit, and %d do not", fit, not)
	}
}

// wrongSets returns lists of numbers that do not ascend in 0..n-1.
func wrongSets(n int) [][]int {
	list := [][]int{{n}, {n + 1}, {-1}, {greatestInt}, {leastInt}, {-1, 0}, {leastInt, 0}, {0, greatestInt}, {greatestInt, leastInt}, {0, 0}, make([]int, 1000)}
	for _, set := range subsets(min(n, 5)) {
		last := len(set) - 1
		list = append(list, append(slices.Clone(set), n), append(ints(-1), set...))
		if last >= 0 {
			list = append(list, append(slices.Clone(set), set[last]), append(slices.Clone(set), leastInt))
		}
		if last >= 1 {
			down := slices.Clone(set)
			slices.Reverse(down)
			list = append(list, down, append(slices.Clone(set), set[0]), append(ints(set[last]), set...))
		}
	}
	return list
}

func TestKnapsackValueOfOtherChoices(t *testing.T) {
	for n := range impl.MaxItems + 1 {
		values, weights := slices.Repeat(ints(1), n), slices.Repeat(ints(1), n)
		for _, set := range wrongSets(n) {
			if got := impl.KnapsackValue(values, weights, 99, set); got != -1 {
				t.Errorf("KnapsackValue of %d items and %v = %d", n, set, got)
			}
		}
	}
}

func TestKnapsackBound(t *testing.T) {
	parts := 0
	for _, c := range validPackings() {
		want := wantDivided(c)
		if got, ok := impl.KnapsackBound(c.values, c.weights, c.capacity); !ok || got != want {
			t.Errorf("KnapsackBound(%v) = %v, %t, want %v", c, got, ok, want)
		}
		if want.Den > 1 {
			parts++
		}
	}
	if parts < 50 {
		t.Errorf("only %d bounds are not integers", parts)
	}
}

func TestDividedItems(t *testing.T) {
	for _, c := range []struct {
		of   packing
		want impl.Rat
	}{
		{packing{nil, nil, 0}, rat(0, 1)}, {packing{nil, nil, 99}, rat(0, 1)}, {packing{ints(5), ints(20), 0}, rat(0, 1)}, {packing{ints(99), ints(20), 19}, rat(1881, 20)}, {packing{ints(10), ints(20), 10}, rat(5, 1)}, {packing{ints(99), ints(20), 20}, rat(99, 1)}, {packing{ints(99), ints(20), 99}, rat(99, 1)},
		// Behind the item that is divided nothing is taken, because there is no room.
		{packing{ints(9, 1), ints(9, 1), 9}, rat(9, 1)}, {packing{ints(1, 9), ints(1, 9), 9}, rat(9, 1)}, {packing{ints(10, 7, 6, 1), ints(6, 4, 4, 1), 8}, rat(41, 3)}, {packing{ints(6, 5, 1), ints(4, 3, 1), 6}, rat(19, 2)}, {packing{ints(0, 0), ints(3, 2), 4}, rat(0, 1)}, {packing{ints(0, 4), ints(3, 2), 1}, rat(2, 1)},
		{packing{ints(3, 2), ints(7, 5), 6}, rat(18, 7)}, {packing{ints(2, 3), ints(5, 7), 6}, rat(18, 7)}, {packing{ints(99, 98), ints(20, 20), 30}, rat(148, 1)}, {packing{slices.Repeat(ints(99), 10), slices.Repeat(ints(20), 10), 99}, rat(9801, 20)}, {packing{slices.Repeat(ints(99), 10), slices.Repeat(ints(9), 10), 99}, rat(990, 1)},
	} {
		if got, ok := impl.KnapsackBound(c.of.values, c.of.weights, c.of.capacity); !ok || got != c.want {
			t.Errorf("KnapsackBound(%v) = %v, %t, want %v", c.of, got, ok, c.want)
		}
	}
}

func TestKnapsacksWithInvalidArguments(t *testing.T) {
	for _, c := range invalidPackings() {
		if got := impl.KnapsackTable(c.values, c.weights, c.capacity); len(got) != 0 {
			t.Errorf("KnapsackTable(%v) = %v", c, got)
		}
		if got, n := impl.BestKnapsack(c.values, c.weights, c.capacity); len(got) != 0 || n != -1 {
			t.Errorf("BestKnapsack(%v) = %v, %d", c, got, n)
		}
		for _, set := range [][]int{nil, {0}, {0, 1}} {
			if got := impl.KnapsackValue(c.values, c.weights, c.capacity, set); got != -1 {
				t.Errorf("KnapsackValue(%v, %v) = %d", c, set, got)
			}
		}
		if got, ok := impl.KnapsackBound(c.values, c.weights, c.capacity); ok || got != (impl.Rat{}) {
			t.Errorf("KnapsackBound(%v) = %v, %t", c, got, ok)
		}
	}
}

func TestP39LeavingOutLeastKeepsMost(t *testing.T) {
	checked := 0
	for _, c := range packings() {
		_, kept := impl.BestKnapsack(c.values, c.weights, c.capacity)
		p, ok := impl.KnapsackModel(c.values, c.weights, c.capacity)
		if kept < 0 || !ok {
			continue
		}
		all := 0
		for _, v := range c.values {
			all += v
		}
		if _, least := impl.SolveExact(p); least != all-kept {
			t.Errorf("%v: items of %d are left out, and of %d kept", c, least, kept)
		}
		checked++
	}
	if checked < 100 {
		t.Errorf("only %d models", checked)
	}
}

func TestP74MoreRoomIsNotWorse(t *testing.T) {
	for _, c := range validPackings() {
		table := impl.KnapsackTable(c.values, c.weights, c.capacity)
		_, best := impl.BestKnapsack(c.values, c.weights, c.capacity)
		if len(table) != c.capacity+1 || table[0] != 0 || !slices.IsSorted(table) || table[c.capacity] != best {
			t.Errorf("KnapsackTable(%v) = %v, but BestKnapsack is %d", c, table, best)
		}
		for room := range c.capacity {
			if smaller := impl.KnapsackTable(c.values, c.weights, room); !slices.Equal(smaller, table[:room+1]) {
				t.Errorf("KnapsackTable(%v) = %v, but up to %d %v", c, table, room, smaller)
			}
		}
	}
}

func TestP75AnItemIsTakenOrNot(t *testing.T) {
	last := func(values []int, weights []int, capacity int) int {
		return impl.KnapsackTable(values, weights, capacity)[capacity]
	}
	for _, c := range validPackings() {
		n := len(c.values) - 1
		if n < 0 {
			continue
		}
		want := last(c.values[:n], c.weights[:n], c.capacity)
		if room := c.capacity - c.weights[n]; room >= 0 {
			want = max(want, last(c.values[:n], c.weights[:n], room)+c.values[n])
		}
		if got := last(c.values, c.weights, c.capacity); got != want {
			t.Errorf("KnapsackTable(%v) ends with %d, want %d", c, got, want)
		}
	}
}

func TestP76TheBestItemsFit(t *testing.T) {
	for _, c := range validPackings() {
		list, best := impl.BestKnapsack(c.values, c.weights, c.capacity)
		if got := impl.KnapsackValue(c.values, c.weights, c.capacity, list); got != best || best < 0 {
			t.Errorf("BestKnapsack(%v) = %v, %d, but KnapsackValue is %d", c, list, best, got)
		}
		var fit []int
		room := c.capacity
		for i, weight := range c.weights {
			if weight <= room {
				fit = append(fit, i)
				room -= weight
			}
		}
		if got, n := impl.BestKnapsack(make([]int, len(c.values)), c.weights, c.capacity); n != 0 || !slices.Equal(got, fit) {
			t.Errorf("BestKnapsack(%v) without values = %v, %d, want %v", c, got, n, fit)
		}
	}
}

func TestP77NoChoiceIsBetterThanTheBestOne(t *testing.T) {
	for _, c := range validPackings() {
		_, best := impl.BestKnapsack(c.values, c.weights, c.capacity)
		for _, set := range append(subsets(len(c.values)), wrongSets(len(c.values))...) {
			if got := impl.KnapsackValue(c.values, c.weights, c.capacity, set); got > best {
				t.Errorf("KnapsackValue(%v, %v) = %d, but BestKnapsack is %d", c, set, got, best)
			}
		}
	}
}

func TestP78DividingItemsHelpsByLessThanOneItem(t *testing.T) {
	for _, c := range validPackings() {
		_, best := impl.BestKnapsack(c.values, c.weights, c.capacity)
		greatest := slices.Max(append(ints(0), c.values...))
		bound, ok := impl.KnapsackBound(c.values, c.weights, c.capacity)
		if !ok || impl.CompareRat(bound, rat(best, 1)) < 0 || impl.CompareRat(bound, rat(best+greatest, 1)) > 0 {
			t.Errorf("KnapsackBound(%v) = %v, %t, but BestKnapsack is %d", c, bound, ok, best)
		}
	}
}

func TestKnapsacksAreNotChangedAndNotShared(t *testing.T) {
	for _, c := range append(validPackings(), invalidPackings()...) {
		values, weights, set := spare(c.values), spare(c.weights), spare(ints(0, 1)[:min(2, len(c.values))])
		checkMemory(t, "a function of chapter 12", []any{values, weights, set}, func() []any {
			list, best := impl.BestKnapsack(values, weights, c.capacity)
			bound, ok := impl.KnapsackBound(values, weights, c.capacity)
			return []any{impl.KnapsackTable(values, weights, c.capacity), list, best, impl.KnapsackValue(values, weights, c.capacity, set), bound, ok}
		})
	}
}
