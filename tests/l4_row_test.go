package tests

import (
	"slices"
	"strings"
	"testing"

	"loop.example/integerplanner/impl"
)

func row(sense int, bound int, coefs ...int) impl.Row {
	return impl.Row{Coefs: coefs, Sense: sense, Bound: bound}
}

func sameRow(a impl.Row, b impl.Row) bool {
	return slices.Equal(a.Coefs, b.Coefs) && a.Sense == b.Sense && a.Bound == b.Bound
}

// isZero reports whether a row is the zero value, nil or empty.
func isZero(r impl.Row) bool {
	return sameRow(r, impl.Row{})
}

// validRows returns rows that are valid for their coefficients.
func validRows() []impl.Row {
	list := []impl.Row{row(1, 0, 0), row(2, 99, 9), row(3, -99, -9), row(1, 10, 2, 0, -3), row(3, -4, 0, 0), row(2, 1, -1, 1), row(3, 99, 9, 9, 9, 9, 9), row(2, -99, -9, -9, -9, -9, -9), row(1, 5, 0, 0, 0, 0, 1), row(1, 5, 1, 0, 0, 0, 0), row(3, 0, 0, 0, 0, 0, 0), row(2, 0, 0, -1, 0, 1, 0)}
	r := numbers()
	for n := range 300 {
		coefs := make([]int, n%impl.MaxVars+1)
		for i := range coefs {
			coefs[i] = max(r.Intn(2*impl.MaxCoef+4)-impl.MaxCoef-3, -impl.MaxCoef)
			if r.Intn(3) == 0 {
				coefs[i] = 0
			}
		}
		bound := r.Intn(2*impl.MaxBound+1) - impl.MaxBound
		if n%2 == 0 {
			bound = r.Intn(41) - 20
		}
		list = append(list, row(r.Intn(3)+1, bound, coefs...))
	}
	return list
}

// invalidRows returns rows that are not valid for their coefficients.
func invalidRows() []impl.Row {
	list := []impl.Row{{}, row(1, 0), row(1, 0, 0, 0, 0, 0, 0, 0), row(1, 1, slices.Repeat([]int{1}, 100)...)}
	for _, sense := range []int{0, 4, -1, greatestInt, leastInt} {
		list = append(list, row(sense, 1, 1, 1))
	}
	for _, c := range []int{10, -10, greatestInt, leastInt} {
		list = append(list, row(1, 1, c), row(2, 1, 1, 1, c), row(3, 1, c, 0))
	}
	for _, b := range []int{100, -100, greatestInt, leastInt} {
		list = append(list, row(1, b, 1), row(2, b, 1, 2), row(3, b, 0, 0))
	}
	return list
}

// rowPoints returns points of n variables.
func rowPoints(n int) [][]int {
	list := [][]int{make([]int, n), slices.Repeat([]int{impl.MaxUpper}, n)}
	r := numbers()
	for range 20 {
		x := make([]int, n)
		for i := range x {
			x[i] = r.Intn(impl.MaxUpper + 1)
		}
		list = append(list, x)
	}
	return list
}

// wantHolds compares the left side of a valid row with its bound.
func wantHolds(left int, sense int, bound int) bool {
	return sense == impl.AtMost && left <= bound || sense == impl.AtLeast && left >= bound || sense == impl.Equal && left == bound
}

func TestSenses(t *testing.T) {
	if impl.AtMost != 1 || impl.AtLeast != 2 || impl.Equal != 3 {
		t.Error("the senses are not 1, 2 and 3")
	}
}

func TestValidRow(t *testing.T) {
	for _, r := range validRows() {
		for n := -1; n <= impl.MaxVars+1; n++ {
			if got := impl.ValidRow(r, n); got != (n == len(r.Coefs)) {
				t.Errorf("ValidRow(%v, %d) = %t", r, n, got)
			}
		}
		if impl.ValidRow(r, greatestInt) || impl.ValidRow(r, leastInt) {
			t.Errorf("%v is valid for too many variables", r)
		}
	}
	for _, r := range invalidRows() {
		if impl.ValidRow(r, len(r.Coefs)) {
			t.Errorf("ValidRow(%v, %d) = true", r, len(r.Coefs))
		}
	}
}

func TestRowOfTerms(t *testing.T) {
	for i, list := range validLists() {
		for n := -1; n <= impl.MaxVars+1; n++ {
			sense, bound := i%5, i%203-101
			normal, ok := impl.NormalTerms(list)
			ok = ok && within(n, 1, impl.MaxVars) && within(sense, 1, 3) && within(bound, -99, 99)
			for _, term := range list {
				ok = ok && term.Var < n
			}
			var want impl.Row
			if ok {
				want = row(sense, bound, make([]int, n)...)
				for _, term := range normal {
					want.Coefs[term.Var] = term.Coef
				}
			}
			if got, gotOk := impl.RowOfTerms(list, n, sense, bound); !sameRow(got, want) || gotOk != ok {
				t.Errorf("RowOfTerms(%v, %d, %d, %d) = %v, %t, want %v, %t", list, n, sense, bound, got, gotOk, want, ok)
			}
		}
	}
}

func TestRowOfTermsAtLimits(t *testing.T) {
	for _, c := range []struct {
		list            []impl.Term
		n, sense, bound int
		want            impl.Row
		ok              bool
	}{
		{terms(2, 3, 0, 1, 2, -3, 0, 1), 3, 1, 3, row(1, 3, 2, 0, 0), true},
		{nil, 2, 3, 99, row(3, 99, 0, 0), true},
		{terms(4, 9, 0, -9), 5, 2, -99, row(2, -99, -9, 0, 0, 0, 9), true},
		{terms(1, 1), 1, 1, 1, impl.Row{}, false},
		{terms(0, 1, 1, 2, 1, -2), 1, 1, 1, impl.Row{}, false},
		{terms(0, 1, 1, 0), 1, 1, 1, impl.Row{}, false},
		{terms(0, 9, 0, 1), 1, 1, 1, impl.Row{}, false},
		{terms(0, 10), 1, 1, 1, impl.Row{}, false},
		{slices.Repeat(terms(0, 0), impl.MaxTerms+1), 1, 1, 1, impl.Row{}, false},
		{nil, 0, 1, 1, impl.Row{}, false},
		{nil, -1, 1, 1, impl.Row{}, false},
		{nil, 6, 1, 1, impl.Row{}, false},
		{nil, greatestInt, 1, 1, impl.Row{}, false},
		{nil, leastInt, 1, 1, impl.Row{}, false},
		{terms(0, 1), 1, 0, 1, impl.Row{}, false},
		{terms(0, 1), 1, 4, 1, impl.Row{}, false},
		{terms(0, 1), 1, 1, 100, impl.Row{}, false},
		{terms(0, 1), 1, 1, -100, impl.Row{}, false},
		{terms(0, 1), 1, 1, leastInt, impl.Row{}, false},
	} {
		if got, ok := impl.RowOfTerms(c.list, c.n, c.sense, c.bound); !sameRow(got, c.want) || ok != c.ok {
			t.Errorf("RowOfTerms(%v, %d, %d, %d) = %v, %t", c.list, c.n, c.sense, c.bound, got, ok)
		}
	}
}

func TestRowHolds(t *testing.T) {
	held := [2]int{}
	for _, r := range validRows() {
		for _, x := range rowPoints(len(r.Coefs)) {
			left := 0
			for i, c := range r.Coefs {
				left += c * x[i]
			}
			want := wantHolds(left, r.Sense, r.Bound)
			if got := impl.RowHolds(r, x); got != want {
				t.Errorf("RowHolds(%v, %v) = %t", r, x, got)
			}
			if want {
				held[1]++
			} else {
				held[0]++
			}
			// The bounds next to the left side.
			for b := left - 1; b <= left+1; b++ {
				near := row(r.Sense, b, r.Coefs...)
				if got := impl.RowHolds(near, x); got != (within(b, -99, 99) && wantHolds(left, r.Sense, b)) {
					t.Errorf("RowHolds(%v, %v) = %t", near, x, got)
				}
			}
		}
	}
	if held[0] < 100 || held[1] < 100 {
		t.Errorf("too few rows hold or do not hold: %v", held)
	}
}

func TestRowHoldsForInvalidArguments(t *testing.T) {
	for _, c := range []struct {
		r impl.Row
		x []int
	}{
		{row(1, 99, 1, 1), nil}, {row(1, 99, 1, 1), []int{1}}, {row(1, 99, 1, 1), []int{1, 1, 1}}, {row(1, 99, 1, 1), []int{1, 1, 0}},
		{row(1, 99, 1, 1), []int{10, 0}}, {row(1, 99, 1, 1), []int{0, -1}}, {row(1, 99, 1, 0), []int{1, 10}}, {row(2, -99, 0, 1), []int{-1, 1}},
		{row(2, -99, 1), []int{leastInt}}, {row(1, 99, 1), []int{greatestInt}}, {impl.Row{}, nil}, {row(3, 0), []int{}},
	} {
		if impl.RowHolds(c.r, c.x) {
			t.Errorf("RowHolds(%v, %v) = true", c.r, c.x)
		}
	}
	for _, r := range invalidRows() {
		for _, x := range append(rowPoints(len(r.Coefs)), nil) {
			if impl.RowHolds(r, x) {
				t.Errorf("RowHolds(%v, %v) = true", r, x)
			}
		}
	}
}

func TestP22NegatedRowsAreAsValid(t *testing.T) {
	for _, r := range validRows() {
		n := impl.NegateRow(r)
		if !impl.ValidRow(n, len(r.Coefs)) {
			t.Errorf("NegateRow(%v) = %v", r, n)
		}
		want := row([]int{0, impl.AtLeast, impl.AtMost, impl.Equal}[r.Sense], -r.Bound)
		for _, c := range r.Coefs {
			want.Coefs = append(want.Coefs, -c)
		}
		if !sameRow(n, want) {
			t.Errorf("NegateRow(%v) = %v, want %v", r, n, want)
		}
	}
	for _, r := range invalidRows() {
		if n := impl.NegateRow(r); !isZero(n) {
			t.Errorf("NegateRow(%v) = %v", r, n)
		}
	}
}

func TestP23RowsSayWhatTermsSay(t *testing.T) {
	made := 0
	for i, list := range validLists() {
		for n := 1; n <= impl.MaxVars; n++ {
			for sense := impl.AtMost; sense <= impl.Equal; sense++ {
				for _, x := range rowPoints(n) {
					value := impl.EvalTerms(list, x)
					// At the value, next to it, and anywhere.
					for _, bound := range []int{value, value - 1, value + 1, i%199 - 99} {
						r, ok := impl.RowOfTerms(list, n, sense, bound)
						if !ok {
							continue
						}
						made++
						if got := impl.RowHolds(r, x); got != wantHolds(value, sense, bound) {
							t.Errorf("RowHolds(%v, %v) = %t, but the value is %d", r, x, got, value)
						}
					}
				}
			}
		}
	}
	if made < 10000 {
		t.Errorf("only %d rows are valid", made)
	}
}

func TestP24EqualityIsBothInequalities(t *testing.T) {
	for _, r := range append(validRows(), invalidRows()...) {
		for _, x := range append(rowPoints(len(r.Coefs)), nil, []int{1, 10}) {
			left := 0
			for i := range min(len(x), len(r.Coefs)) {
				left += r.Coefs[i] * x[i]
			}
			for _, bound := range []int{r.Bound, left, left - 1, left + 1} {
				equal := impl.RowHolds(row(impl.Equal, bound, r.Coefs...), x)
				most := impl.RowHolds(row(impl.AtMost, bound, r.Coefs...), x)
				least := impl.RowHolds(row(impl.AtLeast, bound, r.Coefs...), x)
				if equal != (most && least) {
					t.Errorf("%v = %d at %v: %t, but %t and %t", r.Coefs, bound, x, equal, most, least)
				}
			}
		}
	}
}

func TestP25NegatedRowsSayTheSame(t *testing.T) {
	for _, r := range append(validRows(), invalidRows()...) {
		n := impl.NegateRow(r)
		for _, x := range append(rowPoints(len(r.Coefs)), nil, []int{1, 10}, []int{1, 2, 3, 4, 5, 6}) {
			if a, b := impl.RowHolds(r, x), impl.RowHolds(n, x); a != b {
				t.Errorf("RowHolds(%v, %v) = %t, but %t negated", r, x, a, b)
			}
		}
	}
}

func TestP26NegatingTwiceChangesNothing(t *testing.T) {
	for _, r := range validRows() {
		if got := impl.NegateRow(impl.NegateRow(r)); !sameRow(got, r) {
			t.Errorf("%v negated twice is %v", r, got)
		}
	}
}

func TestTextsOfRows(t *testing.T) {
	for _, c := range []struct {
		r    impl.Row
		text string
	}{
		{row(1, 10, 2, 0, -3), "2 x0 - 3 x2 <= 10"}, {row(3, -4, 0, 0), "0 = -4"}, {row(2, 1, -1, 1), "-1 x0 + 1 x1 >= 1"},
		{row(1, 0, 0), "0 <= 0"}, {row(2, 99, 9), "9 x0 >= 99"}, {row(3, -99, -9), "-9 x0 = -99"},
		{row(1, 1, 0, 1), "1 x1 <= 1"}, {row(1, 1, 0, -1), "-1 x1 <= 1"},
		{row(3, 0, 1, -2, 3, -4, 5), "1 x0 - 2 x1 + 3 x2 - 4 x3 + 5 x4 = 0"},
		{row(2, -10, 0, 0, 0, 0, -9), "-9 x4 >= -10"},
	} {
		if s := impl.FormatRow(c.r); s != c.text {
			t.Errorf("FormatRow(%v) = %q, want %q", c.r, s, c.text)
		}
		if r, ok := impl.ParseRow(c.text, len(c.r.Coefs)); !ok || !sameRow(r, c.r) {
			t.Errorf("ParseRow(%q) = %v, %t, want %v", c.text, r, ok, c.r)
		}
	}
	for _, r := range invalidRows() {
		if s := impl.FormatRow(r); s != "" {
			t.Errorf("FormatRow(%v) = %q", r, s)
		}
	}
}

func TestP27TextsOfRowsLoseNothing(t *testing.T) {
	for _, r := range validRows() {
		s := impl.FormatRow(r)
		last := 0
		for i, c := range r.Coefs {
			if c != 0 {
				last = i
			}
		}
		for n := -1; n <= impl.MaxVars+1; n++ {
			// More variables have coefficients of 0, and so have fewer ones if they are enough.
			var want impl.Row
			ok := within(n, last+1, impl.MaxVars)
			if ok {
				want = row(r.Sense, r.Bound, make([]int, n)...)
				copy(want.Coefs, r.Coefs)
			}
			if got, gotOk := impl.ParseRow(s, n); !sameRow(got, want) || gotOk != ok {
				t.Errorf("ParseRow(%q, %d) = %v, %t, want %v, %t", s, n, got, gotOk, want, ok)
			}
		}
	}
}

func TestTextsThatAreAlmostRows(t *testing.T) {
	for _, s := range []string{
		"", " ", "0", "<= 1", " <= 1", "= 1", "x0 <= 1", "1 <= 1", "1 x0", "1 x0 <=", "1 x0 <= ", "1 x0 <= x0", "1 x0 <= 1 x1", "1 x0 <= 1 + 1",
		"2 x0 <= 010", "02 x0 <= 1", "1 x00 <= 1", "1 x01 <= 1", "1 x0 <= -0", "1 x0 <= 00", "1 x0 <= +1", "+1 x0 <= 1", "1 x+0 <= 1", "1 x-0 <= 1", "1 x-1 <= 1", "1 x <= 1",
		"0 x0 <= 1", "-0 x0 <= 1", "-0 <= 1", "00 <= 1", "1 x0 + 0 x1 <= 1", "0 + 1 x0 <= 1", "1 x0 + 0 <= 1", "0 x0 + 1 x1 <= 1",
		"1 x1 + 1 x0 <= 1", "1 x0 + 1 x0 <= 1", "1 x0 - 1 x0 <= 1", "1 x0 + -1 x1 <= 1", "1 x0 - -1 x1 <= 1", "-1 x0 + +1 x1 <= 1", "- 1 x0 <= 1", " - 1 x0 <= 1", " + 1 x0 <= 1", "--1 x0 <= 1",
		"1 x0  <= 1", "1  x0 <= 1", " 1 x0 <= 1", "1 x0 <= 1 ", "1 x0 <=  1", "1x0 <= 1", "1 x 0 <= 1", "1 x0<= 1", "1 x0 <=1", "1 x0+1 x1 <= 1", "1 x0 +1 x1 <= 1", "1 x0+ 1 x1 <= 1", "1\tx0 <= 1", "1 x0 <= 1\n",
		"1 x0 < 1", "1 x0 > 1", "1 x0 == 1", "1 x0 =< 1", "1 x0 => 1", "1 x0 <> 1", "1 x0 \u2264 1", "1 x0 <= 1 <= 2", "1 x0 <= 1 = 1",
		"1 x3 <= 1", "1 x5 <= 1", "1 x99999999999999999999 <= 1", "10 x0 <= 1", "-10 x0 <= 1", "1 x0 + 10 x1 <= 1", "1 x0 - 10 x1 <= 1", "1 x0 <= 100", "1 x0 <= -100", "1 x0 <= 99999999999999999999",
		"99999999999999999999 x0 <= 1", "-9223372036854775808 x0 <= 1", "1 x0 - -9223372036854775808 x1 <= 1", "1 x0 <= 9223372036854775807",
		"1 X0 <= 1", "1 y0 <= 1", "1*x0 <= 1", "1.0 x0 <= 1", "1_0 x0 <= 1", "0x1 x0 <= 1", "\u0661 x0 <= 1", "1 x0 <= 1\x00", "1 x0 <= \u0661", "1 x0 + <= 1", "1 x0 + 1 <= 1", "1 x0 - x1 <= 1", "1 x0 + 1 x1", "1 x0 1 x1 <= 1",
	} {
		if r, ok := impl.ParseRow(s, 3); ok || !isZero(r) {
			t.Errorf("ParseRow(%q, 3) = %v, %t", s, r, ok)
		}
	}
	for _, n := range []int{0, -1, impl.MaxVars + 1, greatestInt, leastInt} {
		if r, ok := impl.ParseRow("1 x0 <= 1", n); ok || !isZero(r) {
			t.Errorf("ParseRow with %d variables = %v, %t", n, r, ok)
		}
	}
	long := "1 x0" + strings.Repeat(" + 1 x1", 10000) + " <= 1"
	if r, ok := impl.ParseRow(long, 3); ok || !isZero(r) {
		t.Errorf("ParseRow of a long text = %v, %t", r, ok)
	}
}

func TestP28EveryRowHasOneText(t *testing.T) {
	accepted := 0
	for i, r := range validRows() {
		if i%6 != 0 && i > 12 {
			continue
		}
		for _, s := range nearTexts(impl.FormatRow(r), "0129x+-<>= ") {
			n := i%impl.MaxVars + 1
			got, ok := impl.ParseRow(s, n)
			if ok && (impl.FormatRow(got) != s || !impl.ValidRow(got, n)) {
				t.Errorf("ParseRow(%q, %d) = %v, whose text is %q", s, n, got, impl.FormatRow(got))
			}
			if !ok && !isZero(got) {
				t.Errorf("ParseRow(%q, %d) = %v, false", s, n, got)
			}
			if ok {
				accepted++
			}
		}
	}
	if accepted < 100 {
		t.Errorf("only %d texts are accepted", accepted)
	}
}

func TestRowsAreNotChangedAndNotShared(t *testing.T) {
	for _, r := range validRows() {
		coefs := spare(r.Coefs)
		arg := row(r.Sense, r.Bound, coefs...)
		before := slices.Clone(whole(coefs))
		x := spare(make([]int, len(coefs)))
		beforeX := slices.Clone(whole(x))
		negated := impl.NegateRow(arg)
		impl.ValidRow(arg, len(coefs))
		impl.RowHolds(arg, x)
		impl.FormatRow(arg)
		if !slices.Equal(whole(coefs), before) || !slices.Equal(whole(x), beforeX) {
			t.Fatalf("%v and %v have changed to %v and %v", before, beforeX, whole(coefs), whole(x))
		}
		overwrite(negated.Coefs, -mark)
		if !slices.Equal(whole(coefs), before) {
			t.Fatalf("NegateRow(%v) shares its coefficients", r)
		}
	}
	for _, list := range validLists() {
		arg := spareTerms(list)
		before := slices.Clone(whole(arg))
		r, _ := impl.RowOfTerms(arg, impl.MaxVars, impl.AtMost, 1)
		overwrite(r.Coefs, mark)
		if !slices.Equal(whole(arg), before) {
			t.Fatalf("RowOfTerms has changed %v", list)
		}
	}
	a, _ := impl.ParseRow("1 x0 - 2 x1 <= 3", 2)
	overwrite(a.Coefs, mark)
	if b, ok := impl.ParseRow("1 x0 - 2 x1 <= 3", 2); !ok || !sameRow(b, row(1, 3, 1, -2)) {
		t.Errorf("ParseRow shares its result: %v", b)
	}
}
