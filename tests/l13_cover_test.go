package tests

import (
	"slices"
	"testing"

	"loop.example/integerplanner/impl"
)

// minusOne returns a list of numbers without one of them.
func minusOne(list []int, at int) []int {
	return slices.Concat(list[:at], list[at+1:])
}

// validLoads returns valid weights and capacities of all sizes, without values: with equal weights, with items that do
// not fit alone, and at the limits.
func validLoads() []packing {
	list := []packing{
		{nil, nil, 0}, {nil, nil, 99}, {nil, ints(1), 0}, {nil, ints(1), 1}, {nil, ints(20), 19}, {nil, ints(20), 20}, {nil, ints(20, 20), 0}, {nil, slices.Repeat(ints(20), 10), 99}, {nil, slices.Repeat(ints(10), 10), 99}, {nil, slices.Repeat(ints(1), 10), 5}, {nil, slices.Repeat(ints(9), 10), 99},
		{nil, ints(5, 4, 3, 6), 8}, {nil, ints(2, 2, 2, 3, 5, 6), 5}, {nil, ints(9, 3, 4, 9), 8},
	}
	r := numbers()
	for n := range 300 {
		size := n % (impl.MaxItems + 1)
		heavy := []int{2, 5, 9, impl.MaxWeight}[r.Intn(4)]
		list = append(list, packing{nil, randomNumbers(r, size, 1, heavy), r.Intn(min(99, max(1, size)*heavy/2) + 1)})
	}
	return list
}

// coversOf returns all covers of valid weights and a valid capacity.
func coversOf(c packing) [][]int {
	var list [][]int
	for _, set := range subsets(len(c.weights)) {
		if sumOf(c.weights, set) > c.capacity {
			list = append(list, set)
		}
	}
	return list
}

// isMinimal reports whether a cover is not one without any of its items.
func isMinimal(c packing, cover []int) bool {
	for i := range cover {
		if sumOf(c.weights, minusOne(cover, i)) > c.capacity {
			return false
		}
	}
	return true
}

// greatestSum returns the greatest sum of coefficients of items that fit into a capacity.
func greatestSum(weights []int, coefs []int, capacity int) int {
	if len(weights) == 0 {
		return 0
	}
	greatest := greatestSum(weights[1:], coefs[1:], capacity)
	if weights[0] <= capacity {
		greatest = max(greatest, coefs[0]+greatestSum(weights[1:], coefs[1:], capacity-weights[0]))
	}
	return greatest
}

// wantLifted returns the coefficients of a minimal cover whose other items are lifted in an order.
func wantLifted(c packing, cover []int, order []int) []int {
	coefs := make([]int, len(c.weights))
	for _, i := range cover {
		coefs[i] = 1
	}
	for _, i := range order {
		if slices.Contains(cover, i) {
			continue
		}
		greatest := 0
		if room := c.capacity - c.weights[i]; room >= 0 {
			greatest = greatestSum(c.weights, coefs, room)
		}
		coefs[i] = max(0, len(cover)-1-greatest)
	}
	return coefs
}

func TestIsCover(t *testing.T) {
	covers, not := 0, 0
	for _, c := range validLoads() {
		for _, set := range subsets(len(c.weights)) {
			want := sumOf(c.weights, set) > c.capacity
			if got := impl.IsCover(c.weights, c.capacity, set); got != want {
				t.Errorf("IsCover(%v, %v) = %t", c, set, got)
			}
			if want {
				covers++
			} else {
				not++
			}
		}
	}
	if covers < 1000 || not < 1000 {
		t.Errorf("%d sets are covers, and %d are not", covers, not)
	}
}

func TestCoversOfOtherSets(t *testing.T) {
	for n := range impl.MaxItems + 1 {
		weights := slices.Repeat(ints(1), n)
		for _, set := range wrongSets(n) {
			if impl.IsCover(weights, 0, set) {
				t.Errorf("IsCover of %d items and %v = true", n, set)
			}
			if got := impl.MinimalCover(weights, 0, set); len(got) != 0 {
				t.Errorf("MinimalCover of %d items and %v = %v", n, set, got)
			}
			if got := impl.LiftCover(weights, 0, set); len(got) != 0 {
				t.Errorf("LiftCover of %d items and %v = %v", n, set, got)
			}
		}
	}
}

func TestMinimalCover(t *testing.T) {
	for _, c := range validLoads() {
		for _, set := range subsets(len(c.weights)) {
			var want []int
			if load := sumOf(c.weights, set); load > c.capacity {
				for _, i := range set {
					if load-c.weights[i] > c.capacity {
						load -= c.weights[i]
					} else {
						want = append(want, i)
					}
				}
			}
			if got := impl.MinimalCover(c.weights, c.capacity, set); !slices.Equal(got, want) {
				t.Errorf("MinimalCover(%v, %v) = %v, want %v", c, set, got, want)
			}
		}
	}
}

func TestMinimalCovers(t *testing.T) {
	for _, c := range []struct {
		weights  []int
		capacity int
		set      []int
		want     []int
	}{
		{nil, 0, nil, nil}, {ints(1), 0, nil, nil}, {ints(1), 0, ints(0), ints(0)}, {ints(1), 1, ints(0), nil}, {ints(20, 20), 39, ints(0, 1), ints(0, 1)}, {ints(20, 20), 40, ints(0, 1), nil},
		// The first items are removed first, and not those of the smallest or greatest weight.
		{ints(5, 4, 3, 6), 8, ints(0, 1, 2), ints(0, 1)}, {ints(5, 4, 3, 6), 8, ints(0, 2, 3), ints(2, 3)}, {ints(3, 3, 3, 3), 5, ints(0, 1, 2, 3), ints(2, 3)}, {ints(3, 3, 3, 3), 5, ints(0, 1, 3), ints(1, 3)}, {ints(1, 9, 1, 9), 8, ints(0, 1, 2, 3), ints(3)}, {ints(9, 1, 1, 7), 8, ints(0, 1, 2, 3), ints(1, 2, 3)}, {ints(1, 1, 9), 8, ints(0, 1, 2), ints(2)}, {ints(9, 1, 1), 8, ints(0, 1, 2), ints(0)},
		{slices.Repeat(ints(20), 10), 99, ints(0, 1, 2, 3, 4, 5, 6, 7, 8, 9), ints(5, 6, 7, 8, 9)}, {slices.Repeat(ints(1), 10), 0, ints(0, 1, 2, 3, 4, 5, 6, 7, 8, 9), ints(9)}, {slices.Repeat(ints(1), 10), 9, ints(0, 1, 2, 3, 4, 5, 6, 7, 8, 9), ints(0, 1, 2, 3, 4, 5, 6, 7, 8, 9)}, {slices.Repeat(ints(1), 10), 10, ints(0, 1, 2, 3, 4, 5, 6, 7, 8, 9), nil},
	} {
		if got := impl.MinimalCover(c.weights, c.capacity, c.set); !slices.Equal(got, c.want) {
			t.Errorf("MinimalCover(%v, %d, %v) = %v, want %v", c.weights, c.capacity, c.set, got, c.want)
		}
	}
}

func TestLiftCover(t *testing.T) {
	lifted, ordered, heavy := 0, 0, 0
	for _, c := range validLoads() {
		order := make([]int, len(c.weights))
		for i := range order {
			order[i] = i
		}
		back := slices.Clone(order)
		slices.Reverse(back)
		for _, cover := range coversOf(c) {
			got := impl.LiftCover(c.weights, c.capacity, cover)
			if !isMinimal(c, cover) {
				if len(got) != 0 {
					t.Errorf("LiftCover(%v, %v) = %v", c, cover, got)
				}
				continue
			}
			want := wantLifted(c, cover, order)
			if !slices.Equal(got, want) {
				t.Errorf("LiftCover(%v, %v) = %v, want %v", c, cover, got, want)
			}
			if slices.Max(want) > 1 {
				lifted++
			}
			if !slices.Equal(want, wantLifted(c, cover, back)) {
				ordered++
			}
			if slices.Max(c.weights) > c.capacity && len(cover) > 1 {
				heavy++
			}
		}
	}
	if lifted < 100 || ordered < 100 || heavy < 100 {
		t.Errorf("%d covers have a coefficient greater than 1, %d depend on the order, and %d leave out items that do not fit alone", lifted, ordered, heavy)
	}
}

func TestLiftedCovers(t *testing.T) {
	for _, c := range []struct {
		weights  []int
		capacity int
		set      []int
		want     []int
	}{
		{nil, 0, nil, nil}, {ints(1), 1, nil, nil}, {ints(1), 1, ints(0), nil}, {ints(1), 0, ints(0), ints(1)}, {ints(5, 4, 3, 6), 8, ints(0, 1), ints(1, 1, 0, 1)}, {ints(5, 4, 3, 6), 8, ints(0, 1, 2), nil}, {ints(5, 4, 3, 6), 8, ints(0, 2), nil}, {ints(5, 4, 3, 6), 8, ints(1, 0), nil},
		// The coefficient of an item that does not fit alone is the bound.
		{ints(3, 3, 3, 9), 8, ints(0, 1, 2), ints(1, 1, 1, 2)}, {ints(9, 3, 3, 3), 8, ints(1, 2, 3), ints(2, 1, 1, 1)}, {ints(3, 3, 3, 8), 8, ints(0, 1, 2), ints(1, 1, 1, 2)}, {ints(3, 3, 3, 6), 8, ints(0, 1, 2), ints(1, 1, 1, 2)}, {ints(3, 3, 3, 5), 8, ints(0, 1, 2), ints(1, 1, 1, 1)}, {ints(3, 3, 3, 2), 8, ints(0, 1, 2), ints(1, 1, 1, 0)},
		// A cover of one item has the bound 0, and all others have the coefficient 0.
		{ints(9, 3, 9, 8), 8, ints(0), ints(1, 0, 0, 0)}, {ints(9, 3, 9, 8), 8, ints(2), ints(0, 0, 1, 0)}, {ints(9, 3, 9, 8), 8, ints(0, 2), nil},
		// The first of several items is lifted first, and counts for the next ones.
		{ints(2, 2, 2, 1, 1), 4, ints(0, 1, 2), ints(1, 1, 1, 1, 0)}, {ints(2, 2, 2, 3, 1), 4, ints(0, 1, 2), ints(1, 1, 1, 2, 0)}, {ints(2, 2, 2, 1, 3), 4, ints(0, 1, 2), ints(1, 1, 1, 1, 1)}, {ints(3, 1, 2, 2, 2), 4, ints(2, 3, 4), ints(2, 0, 1, 1, 1)}, {ints(1, 2, 3, 2, 2), 4, ints(1, 3, 4), ints(1, 1, 1, 1, 1)}, {ints(3, 2, 2, 2, 1), 4, ints(1, 2, 3), ints(2, 1, 1, 1, 0)}, {ints(2, 2, 2, 9, 1, 1), 4, ints(0, 1, 2), ints(1, 1, 1, 2, 1, 0)},
		{slices.Repeat(ints(20), 10), 99, ints(0, 2, 4, 6, 8), slices.Repeat(ints(1), 10)}, {slices.Repeat(ints(1), 10), 9, ints(0, 1, 2, 3, 4, 5, 6, 7, 8, 9), slices.Repeat(ints(1), 10)}, {append(slices.Repeat(ints(1), 9), 20), 8, ints(0, 1, 2, 3, 4, 5, 6, 7, 8), append(slices.Repeat(ints(1), 9), 8)},
	} {
		if got := impl.LiftCover(c.weights, c.capacity, c.set); !slices.Equal(got, c.want) {
			t.Errorf("LiftCover(%v, %d, %v) = %v, want %v", c.weights, c.capacity, c.set, got, c.want)
		}
	}
}

// inequality has coefficients and a bound.
type inequality struct {
	coefs []int
	bound int
}

// inequalities returns valid coefficients and bounds for valid weights and a valid capacity, some of which just hold.
func inequalities(c packing) []inequality {
	n := len(c.weights)
	r := numbers()
	var list []inequality
	for _, most := range []int{0, 1, 2, 9, impl.MaxValue} {
		coefs := randomNumbers(r, n, 0, most)
		greatest := greatestSum(c.weights, coefs, c.capacity)
		for _, bound := range []int{greatest - 1, greatest, greatest + 1, 0, 1, 990, greatestInt} {
			list = append(list, inequality{coefs, max(0, bound)})
		}
	}
	return append(list, inequality{slices.Repeat(ints(impl.MaxValue), n), r.Intn(991)})
}

func TestCoverHolds(t *testing.T) {
	holds, not := 0, 0
	for _, c := range validLoads() {
		for _, q := range inequalities(c) {
			want := greatestSum(c.weights, q.coefs, c.capacity) <= q.bound
			if got := impl.CoverHolds(c.weights, c.capacity, q.coefs, q.bound); got != want {
				t.Errorf("CoverHolds(%v, %v) = %t", c, q, got)
			}
			if want {
				holds++
			} else {
				not++
			}
		}
	}
	if holds < 500 || not < 500 {
		t.Errorf("%d inequalities hold, and %d do not", holds, not)
	}
}

func TestInequalitiesThatHold(t *testing.T) {
	for _, c := range []struct {
		weights  []int
		capacity int
		coefs    []int
		bound    int
		want     bool
	}{
		{nil, 0, nil, 0, true}, {nil, 99, nil, 0, true}, {nil, 0, nil, -1, false}, {nil, 0, nil, leastInt, false}, {nil, 0, nil, greatestInt, true}, {nil, 0, ints(0), 0, false},
		{ints(5), 4, ints(99), 0, true}, {ints(5), 5, ints(99), 98, false}, {ints(5), 5, ints(99), 99, true}, {ints(5), 5, ints(0), 0, true}, {ints(5), 5, ints(0), -1, false}, {ints(5), 4, ints(99), -1, false}, {ints(5), 4, ints(99), leastInt, false},
		{ints(5, 4, 3, 6), 8, ints(1, 1, 0, 1), 1, true}, {ints(5, 4, 3, 6), 8, ints(1, 1, 1, 1), 1, false}, {ints(5, 4, 3, 6), 8, ints(1, 1, 1, 1), 2, true}, {ints(5, 4, 3, 6), 8, ints(1, 1, 0, 1), 0, false},
		{slices.Repeat(ints(9), 10), 99, slices.Repeat(ints(99), 10), 990, true}, {slices.Repeat(ints(9), 10), 99, slices.Repeat(ints(99), 10), 989, false}, {slices.Repeat(ints(9), 10), 89, slices.Repeat(ints(99), 10), 891, true}, {slices.Repeat(ints(9), 10), 89, slices.Repeat(ints(99), 10), 890, false},
	} {
		if got := impl.CoverHolds(c.weights, c.capacity, c.coefs, c.bound); got != c.want {
			t.Errorf("CoverHolds(%v, %d, %v, %d) = %t", c.weights, c.capacity, c.coefs, c.bound, got)
		}
	}
}

func TestCoversWithInvalidArguments(t *testing.T) {
	for _, c := range invalidWeights() {
		for _, set := range [][]int{nil, {0}, {0, 1}, {0, 1, 2}} {
			if impl.IsCover(c.weights, c.capacity, set) {
				t.Errorf("IsCover(%v, %v) = true", c, set)
			}
			if got := impl.MinimalCover(c.weights, c.capacity, set); len(got) != 0 {
				t.Errorf("MinimalCover(%v, %v) = %v", c, set, got)
			}
			if got := impl.LiftCover(c.weights, c.capacity, set); len(got) != 0 {
				t.Errorf("LiftCover(%v, %v) = %v", c, set, got)
			}
		}
	}
	// Coefficients are valid like values.
	for _, c := range invalidPackings() {
		for _, bound := range []int{-1, 0, 999, greatestInt} {
			if impl.CoverHolds(c.weights, c.capacity, c.values, bound) {
				t.Errorf("CoverHolds(%v, %d) = true", c, bound)
			}
		}
	}
}

func TestP79CoversGrow(t *testing.T) {
	grown := 0
	for _, c := range validLoads() {
		for _, set := range subsets(len(c.weights)) {
			cover := impl.IsCover(c.weights, c.capacity, set)
			if value := impl.KnapsackValue(c.weights, c.weights, c.capacity, set); cover == (value >= 0) {
				t.Errorf("IsCover(%v, %v) = %t, but KnapsackValue is %d", c, set, cover, value)
			}
			for i := range c.weights {
				larger := append(slices.Clone(set), i)
				slices.Sort(larger)
				if cover && !slices.Contains(set, i) {
					grown++
					if !impl.IsCover(c.weights, c.capacity, larger) {
						t.Errorf("IsCover(%v, %v) = true, but not with %d", c, set, i)
					}
				}
			}
		}
	}
	if grown < 1000 {
		t.Errorf("only %d covers grow", grown)
	}
}

func TestP80MinimalCoversHaveNothingToSpare(t *testing.T) {
	for _, c := range validLoads() {
		for _, cover := range coversOf(c) {
			minimal := impl.MinimalCover(c.weights, c.capacity, cover)
			if !impl.IsCover(c.weights, c.capacity, minimal) {
				t.Errorf("MinimalCover(%v, %v) = %v, which is no cover", c, cover, minimal)
			}
			for i, k := range minimal {
				if !slices.Contains(cover, k) || impl.IsCover(c.weights, c.capacity, minusOne(minimal, i)) {
					t.Errorf("MinimalCover(%v, %v) = %v, but %d is not needed", c, cover, minimal, k)
				}
			}
		}
	}
}

// forMinimalCovers calls a function for all minimal covers, with what LiftCover returns for them.
func forMinimalCovers(t *testing.T, f func(c packing, cover []int, coefs []int)) {
	checked := 0
	for _, c := range validLoads() {
		for _, set := range coversOf(c) {
			cover := impl.MinimalCover(c.weights, c.capacity, set)
			coefs := impl.LiftCover(c.weights, c.capacity, cover)
			if len(coefs) != len(c.weights) {
				t.Fatalf("LiftCover(%v, %v) = %v", c, cover, coefs)
			}
			f(c, cover, coefs)
			checked++
		}
	}
	if checked < 1000 {
		t.Errorf("only %d covers", checked)
	}
}

func TestP81LiftedInequalitiesHold(t *testing.T) {
	forMinimalCovers(t, func(c packing, cover []int, coefs []int) {
		if !impl.CoverHolds(c.weights, c.capacity, coefs, len(cover)-1) {
			t.Errorf("LiftCover(%v, %v) = %v, which does not hold", c, cover, coefs)
		}
	})
}

func TestP82TheItemsOfTheCoverKeepOne(t *testing.T) {
	forMinimalCovers(t, func(c packing, cover []int, coefs []int) {
		so := make([]int, len(coefs))
		for _, i := range cover {
			so[i] = 1
			if coefs[i] != 1 {
				t.Errorf("LiftCover(%v, %v) = %v", c, cover, coefs)
			}
		}
		for i, coef := range coefs {
			if slices.Contains(cover, i) {
				continue
			}
			if c.weights[i] <= c.capacity && impl.CoverHolds(c.weights, c.capacity, changed(so, i, coef+1), len(cover)-1) {
				t.Errorf("LiftCover(%v, %v) = %v, but the coefficient of %d can be greater", c, cover, coefs, i)
			}
			so[i] = coef
		}
	})
}

func TestP83BoundsOfInequalitiesAreValuesOfKnapsacks(t *testing.T) {
	for _, c := range validLoads() {
		for _, q := range inequalities(c) {
			_, best := impl.BestKnapsack(q.coefs, c.weights, c.capacity)
			if got := impl.CoverHolds(c.weights, c.capacity, q.coefs, q.bound); best < 0 || got != (best <= q.bound) {
				t.Errorf("CoverHolds(%v, %v) = %t, but BestKnapsack is %d", c, q, got, best)
			}
		}
	}
}

func TestCoversAreNotChangedAndNotShared(t *testing.T) {
	for _, c := range append(validLoads(), invalidWeights()...) {
		n := len(c.weights)
		all := subsets(min(n, impl.MaxItems))
		for _, set := range [][]int{nil, all[len(all)-1], all[len(all)/2], impl.MinimalCover(c.weights, c.capacity, all[len(all)-1])} {
			weights, items, coefs := spare(c.weights), spare(set), spare(slices.Repeat(ints(1), n))
			checkMemory(t, "a function of chapter 13", []any{weights, items, coefs}, func() []any {
				minimal, lifted := impl.MinimalCover(weights, c.capacity, items), impl.LiftCover(weights, c.capacity, items)
				return []any{impl.IsCover(weights, c.capacity, items), minimal, lifted, impl.CoverHolds(weights, c.capacity, coefs, 2)}
			})
		}
	}
}
