package tests

import (
	"slices"
	"testing"

	"loop.example/integerplanner/impl"
)

// terms returns terms from pairs of a variable and a coefficient.
func terms(pairs ...int) []impl.Term {
	var list []impl.Term
	for i := 0; i < len(pairs); i += 2 {
		list = append(list, impl.Term{Var: pairs[i], Coef: pairs[i+1]})
	}
	return list
}

// validLists returns lists of valid terms, of all lengths.
func validLists() [][]impl.Term {
	full := slices.Repeat(terms(4, 1), impl.MaxTerms)
	list := [][]impl.Term{
		nil, {}, terms(0, 0), terms(0, 9), terms(4, -9), terms(0, 9, 0, -9), terms(0, 9, 0, 9), terms(0, -9, 0, -1),
		terms(0, 9, 0, 9, 0, -9), terms(4, 1, 3, 1, 2, 1, 1, 1, 0, 1), terms(2, 3, 0, 1, 2, -3, 0, 1), full,
		slices.Repeat(terms(4, 9), impl.MaxTerms), slices.Repeat(terms(0, 9, 0, -9), impl.MaxTerms/2),
	}
	r := numbers()
	for n := range 400 {
		var l []impl.Term
		for range n % (impl.MaxTerms + 1) {
			l = append(l, impl.Term{Var: r.Intn(impl.MaxVars), Coef: r.Intn(2*impl.MaxCoef+1) - impl.MaxCoef})
		}
		list = append(list, l)
	}
	// Small coefficients, so that the sums of many terms are small as well.
	for n := range 200 {
		var l []impl.Term
		for range n % (impl.MaxTerms + 1) {
			l = append(l, impl.Term{Var: r.Intn(impl.MaxVars), Coef: r.Intn(5) - 2})
		}
		list = append(list, l)
	}
	return list
}

// invalidLists returns lists of terms that are not valid.
func invalidLists() [][]impl.Term {
	list := [][]impl.Term{slices.Repeat(terms(0, 0), impl.MaxTerms+1), slices.Repeat(terms(1, 1), impl.MaxTerms+1), slices.Repeat(terms(2, 1, 2, -1), impl.MaxTerms)}
	for _, bad := range []impl.Term{{Var: -1, Coef: 1}, {Var: impl.MaxVars, Coef: 1}, {Var: impl.MaxVars, Coef: 0}, {Var: 0, Coef: impl.MaxCoef + 1}, {Var: 0, Coef: -impl.MaxCoef - 1}, {Var: greatestInt, Coef: 1}, {Var: leastInt, Coef: 1}, {Var: 0, Coef: greatestInt}, {Var: 0, Coef: leastInt}} {
		list = append(list, []impl.Term{bad}, slices.Concat(terms(1, 2, 2, 3), []impl.Term{bad}), slices.Concat([]impl.Term{bad}, terms(1, 2, 0, -1)))
	}
	// Invalid coefficients whose sums would be valid.
	return append(list, terms(0, 10, 0, -10), terms(0, 10, 0, -9), terms(0, greatestInt, 0, -greatestInt))
}

// points returns values of variables: too few, enough, and too many.
func points() [][]int {
	list := [][]int{nil, {}, {0}, {9}, {9, 9, 9, 9, 9}, {1, 2, 3, 4, 5}, {5, 0, 9, 0, 1}, {3, 7}, {0, 0, 0, 0, 2}, {1, 2, 3, 4, 5, 6, 7}}
	r := numbers()
	for n := range 20 {
		x := make([]int, n%7)
		for i := range x {
			x[i] = r.Intn(impl.MaxUpper + 1)
		}
		list = append(list, x)
	}
	return list
}

// wrongPoints returns values of variables that are not valid.
func wrongPoints() [][]int {
	return [][]int{{10}, {-1}, {10, 10, 10, 10, 10}, {-1, -1, -1, -1, -1}, {1, 2, 3, 4, 10}, {-1, 2, 3, 4, 5}, {1, 2, greatestInt, 4, 5}, {1, leastInt, 3, 4, 5}}
}

// coefSum returns the sum of the coefficients of a variable.
func coefSum(list []impl.Term, v int) int {
	sum := 0
	for _, t := range list {
		if t.Var == v {
			sum += t.Coef
		}
	}
	return sum
}

// wantTerms returns factor times terms in normal form, and whether that is possible.
func wantTerms(list []impl.Term, factor int) ([]impl.Term, bool) {
	var want []impl.Term
	for v := range impl.MaxVars {
		c := coefSum(list, v) * factor
		if !within(c, -impl.MaxCoef, impl.MaxCoef) {
			return nil, false
		}
		if c != 0 {
			want = append(want, terms(v, c)...)
		}
	}
	return want, true
}

func TestNormalTerms(t *testing.T) {
	for _, list := range validLists() {
		want, ok := wantTerms(list, 1)
		if got, gotOk := impl.NormalTerms(list); !slices.Equal(got, want) || gotOk != ok {
			t.Errorf("NormalTerms(%v) = %v, %t, want %v, %t", list, got, gotOk, want, ok)
		}
	}
}

func TestTermsAtLimits(t *testing.T) {
	for _, c := range []struct {
		list, want []impl.Term
		ok         bool
	}{
		{nil, nil, true},
		{terms(0, 0), nil, true},
		{terms(4, 9), terms(4, 9), true},
		{terms(0, -9), terms(0, -9), true},
		{terms(0, 8, 0, 1), terms(0, 9), true},
		{terms(0, 9, 0, 1), nil, false},
		{terms(0, -9, 0, -1), nil, false},
		{terms(1, 1, 0, 9, 0, 1), nil, false},
		// Only the last sum counts.
		{terms(0, 9, 0, 9, 0, -9), terms(0, 9), true},
		{terms(3, 1, 1, 2, 3, -1), terms(1, 2), true},
		{slices.Repeat(terms(2, 0), impl.MaxTerms), nil, true},
		{slices.Repeat(terms(2, 0), impl.MaxTerms+1), nil, false},
		{terms(5, 1), nil, false},
		{terms(-1, 1), nil, false},
		{terms(0, 10), nil, false},
		{terms(0, -10), nil, false},
	} {
		if got, ok := impl.NormalTerms(c.list); !slices.Equal(got, c.want) || ok != c.ok {
			t.Errorf("NormalTerms(%v) = %v, %t, want %v, %t", c.list, got, ok, c.want, c.ok)
		}
	}
}

func TestInvalidTerms(t *testing.T) {
	for _, bad := range invalidLists() {
		if got, ok := impl.NormalTerms(bad); ok || got != nil {
			t.Errorf("NormalTerms(%v) = %v, %t", bad, got, ok)
		}
		for _, good := range [][]impl.Term{nil, terms(0, 1), terms(1, -9, 2, -3)} {
			if got, ok := impl.AddTerms(good, bad); ok || got != nil {
				t.Errorf("AddTerms(%v, %v) = %v, %t", good, bad, got, ok)
			}
			if got, ok := impl.AddTerms(bad, good); ok || got != nil {
				t.Errorf("AddTerms(%v, %v) = %v, %t", bad, good, got, ok)
			}
		}
		for k := -impl.MaxCoef; k <= impl.MaxCoef; k++ {
			if got, ok := impl.ScaleTerms(bad, k); ok || got != nil {
				t.Errorf("ScaleTerms(%v, %d) = %v, %t", bad, k, got, ok)
			}
		}
		for _, x := range points() {
			if got := impl.EvalTerms(bad, x); got != 0 {
				t.Errorf("EvalTerms(%v, %v) = %d", bad, x, got)
			}
		}
	}
}

func TestP17TheNormalFormIsUnique(t *testing.T) {
	for _, list := range validLists() {
		normal, ok := impl.NormalTerms(list)
		back := slices.Clone(list)
		slices.Reverse(back)
		if got, gotOk := impl.NormalTerms(back); !slices.Equal(got, normal) || gotOk != ok {
			t.Errorf("NormalTerms(%v) = %v, but %v in reverse order", list, normal, got)
		}
		if got, gotOk := impl.NormalTerms(normal); ok && (!gotOk || !slices.Equal(got, normal)) {
			t.Errorf("NormalTerms(%v) = %v, %t", normal, got, gotOk)
		}
	}
}

func TestEvalTerms(t *testing.T) {
	for _, list := range validLists() {
		for _, x := range points() {
			want := 0
			for v := range min(len(x), impl.MaxVars) {
				want += coefSum(list, v) * x[v]
			}
			if got := impl.EvalTerms(list, x); got != want {
				t.Errorf("EvalTerms(%v, %v) = %d, want %d", list, x, got, want)
			}
		}
	}
}

func TestValuesAtLimits(t *testing.T) {
	full := slices.Repeat(terms(0, 9), impl.MaxTerms)
	for _, c := range []struct {
		list []impl.Term
		x    []int
		want int
	}{
		{terms(0, 2), []int{9}, 18},
		{terms(0, 2), []int{10}, 0},
		{terms(0, 2), []int{0}, 0},
		{terms(0, 2), []int{-1}, 0},
		{terms(0, 2, 1, 1), []int{3, -1}, 0},
		{terms(0, 2, 1, 1), []int{3, 10}, 0},
		{full, []int{9}, 972},
		// No value counts as 0.
		{terms(0, 2, 4, 5), []int{3}, 6},
		{terms(0, 2, 4, 5), nil, 0},
		{terms(4, 5, 0, 2), []int{3, 1, 1, 1}, 6},
		{terms(4, 5, 0, 2), []int{3, 1, 1, 1, 2}, 16},
		// Values of variables without a term do not matter.
		{terms(0, 2), []int{3, 9, 9, 9, 9}, 6},
		{nil, []int{1, 2, 3}, 0},
		// There are only MaxVars variables: what follows is ignored.
		{terms(0, 2), []int{3, 0, 0, 0, 0, 9, 9}, 6},
		{terms(0, 2, 4, 1), []int{3, 0, 0, 0, 1, 10, -1, greatestInt}, 7},
		// A value that is not allowed is not ignored because its terms cancel.
		{terms(0, 2, 1, 3, 1, -3), []int{3, 10}, 0},
		{terms(0, 2, 1, 0), []int{3, 10}, 0},
	} {
		if got := impl.EvalTerms(c.list, c.x); got != c.want {
			t.Errorf("EvalTerms(%v, %v) = %d, want %d", c.list, c.x, got, c.want)
		}
	}
}

func TestP18TheNormalFormHasTheSameValue(t *testing.T) {
	for _, list := range validLists() {
		normal, ok := impl.NormalTerms(list)
		if !ok {
			continue
		}
		for _, x := range append(points(), wrongPoints()...) {
			if a, b := impl.EvalTerms(list, x), impl.EvalTerms(normal, x); a != b {
				t.Errorf("EvalTerms(%v, %v) = %d, but %d for the normal form", list, x, a, b)
			}
		}
	}
}

func TestP19SumsOfTerms(t *testing.T) {
	lists := validLists()
	succeeded := 0
	for i, a := range lists {
		for _, b := range [][]impl.Term{lists[(3*i+1)%len(lists)], lists[i%14], lists[len(lists)-1-i]} {
			want, ok := wantTerms(slices.Concat(a, b), 1)
			sum, sumOk := impl.AddTerms(a, b)
			other, otherOk := impl.AddTerms(b, a)
			if !slices.Equal(sum, want) || sumOk != ok || !slices.Equal(other, want) || otherOk != ok {
				t.Errorf("AddTerms(%v, %v) = %v, %t, and %v, %t in the other order, want %v, %t", a, b, sum, sumOk, other, otherOk, want, ok)
			}
			if !ok {
				continue
			}
			succeeded++
			for _, x := range append(points(), wrongPoints()...) {
				if impl.EvalTerms(sum, x) != impl.EvalTerms(a, x)+impl.EvalTerms(b, x) {
					t.Errorf("EvalTerms(%v, %v) is not that of %v and %v", sum, x, a, b)
				}
			}
		}
	}
	if succeeded < 200 {
		t.Errorf("only %d sums are valid", succeeded)
	}
}

func TestSumsOfTermsAtLimits(t *testing.T) {
	full := slices.Repeat(terms(3, 1, 3, -1), impl.MaxTerms/2)
	for _, c := range []struct {
		a, b, want []impl.Term
		ok         bool
	}{
		{nil, nil, nil, true},
		{terms(0, 9), terms(0, -9), nil, true},
		{terms(0, 8), terms(0, 1), terms(0, 9), true},
		{terms(0, 9), terms(0, 1), nil, false},
		{terms(0, -9), terms(0, -1), nil, false},
		// Each list may have MaxTerms terms, and only the sum of both is limited.
		{full, full, nil, true},
		{slices.Repeat(terms(1, 1), impl.MaxTerms), slices.Repeat(terms(1, -1), impl.MaxTerms), nil, true},
		{terms(0, 9, 0, 9), terms(0, -9), terms(0, 9), true},
		{slices.Concat(full, terms(0, 0)), nil, nil, false},
		{nil, slices.Concat(full, terms(0, 0)), nil, false},
	} {
		if got, ok := impl.AddTerms(c.a, c.b); !slices.Equal(got, c.want) || ok != c.ok {
			t.Errorf("AddTerms(%v, %v) = %v, %t, want %v, %t", c.a, c.b, got, ok, c.want, c.ok)
		}
	}
}

func TestP20MultiplesOfTerms(t *testing.T) {
	succeeded := 0
	for _, list := range validLists() {
		for k := -impl.MaxCoef; k <= impl.MaxCoef; k++ {
			want, ok := wantTerms(list, k)
			got, gotOk := impl.ScaleTerms(list, k)
			if !slices.Equal(got, want) || gotOk != ok {
				t.Errorf("ScaleTerms(%v, %d) = %v, %t, want %v, %t", list, k, got, gotOk, want, ok)
			}
			if !ok {
				continue
			}
			succeeded++
			for _, x := range append(points(), wrongPoints()...) {
				if a, b := impl.EvalTerms(got, x), k*impl.EvalTerms(list, x); a != b {
					t.Errorf("EvalTerms(%v, %v) = %d, want %d", got, x, a, b)
				}
			}
		}
		one, oneOk := impl.ScaleTerms(list, 1)
		if normal, ok := impl.NormalTerms(list); !slices.Equal(one, normal) || oneOk != ok {
			t.Errorf("ScaleTerms(%v, 1) = %v, %t", list, one, oneOk)
		}
	}
	if succeeded < 1000 {
		t.Errorf("only %d multiples are valid", succeeded)
	}
}

func TestMultiplesAtLimits(t *testing.T) {
	for _, c := range []struct {
		list []impl.Term
		k    int
		want []impl.Term
		ok   bool
	}{
		{terms(0, 1), 9, terms(0, 9), true},
		{terms(0, 1), -9, terms(0, -9), true},
		{terms(0, 1), 10, nil, false},
		{terms(0, 1), -10, nil, false},
		{nil, 10, nil, false},
		{nil, -10, nil, false},
		{terms(0, 0), -10, nil, false},
		{terms(0, 0), greatestInt, nil, false},
		{terms(0, 1), leastInt, nil, false},
		{terms(0, 3), 3, terms(0, 9), true},
		{terms(0, 5), 2, nil, false},
		{terms(0, -5), -2, nil, false},
		{terms(0, 9), -1, terms(0, -9), true},
		{terms(2, 3, 0, 1, 2, -2), 4, terms(0, 4, 2, 4), true},
		// Only the products are limited, not the sums.
		{terms(0, 9, 0, 9), 0, nil, true},
		{terms(0, 9, 0, 9), 1, nil, false},
		{terms(0, 9, 0, -8), 9, terms(0, 9), true},
		{terms(0, 10), 0, nil, false},
	} {
		if got, ok := impl.ScaleTerms(c.list, c.k); !slices.Equal(got, c.want) || ok != c.ok {
			t.Errorf("ScaleTerms(%v, %d) = %v, %t, want %v, %t", c.list, c.k, got, ok, c.want, c.ok)
		}
	}
}

func TestP21ValuesAreLinear(t *testing.T) {
	for _, list := range validLists() {
		for _, x := range append(points(), wrongPoints()...) {
			sum := 0
			for i := range list {
				sum += impl.EvalTerms(list[i:i+1], x)
			}
			if got := impl.EvalTerms(list, x); got != sum {
				t.Errorf("EvalTerms(%v, %v) = %d, but %d term by term", list, x, got, sum)
			}
		}
	}
}

func TestTermsAreNotChangedAndNotShared(t *testing.T) {
	changed := impl.Term{Var: mark, Coef: -mark}
	for _, list := range validLists() {
		a, b := spareTerms(list), spareTerms(terms(0, 1))
		before, beforeB := slices.Clone(whole(a)), slices.Clone(whole(b))
		x := spare([]int{1, 2, 3, 4, 5})
		normal, _ := impl.NormalTerms(a)
		sum, _ := impl.AddTerms(a, b)
		multiple, _ := impl.ScaleTerms(a, 1)
		impl.EvalTerms(a, x)
		for _, result := range [][]impl.Term{normal, sum, multiple} {
			overwrite(result, changed)
		}
		if !slices.Equal(whole(a), before) || !slices.Equal(whole(b), beforeB) || !slices.Equal(whole(x), []int{1, 2, 3, 4, 5, mark, mark, mark}) {
			t.Fatalf("the arguments %v, %v and %v have changed", list, b, x)
		}
	}
}
