package tests

import (
	"math/big"
	"testing"

	"loop.example/integerplanner/impl"
)

func rat(num int, den int) impl.Rat {
	return impl.Rat{Num: num, Den: den}
}

// ratsOf returns rational numbers with numerators and denominators.
func ratsOf(pairs [][2]int) []impl.Rat {
	var list []impl.Rat
	for _, p := range pairs {
		list = append(list, rat(p[0], p[1]))
	}
	return list
}

// validRats returns rational numbers that are valid, many of them at the limits.
func validRats() []impl.Rat {
	const n, d = impl.MaxNum, impl.MaxDen
	list := ratsOf([][2]int{{0, 1}, {1, d}, {n, 1}, {n - 1, d}, {n, d - 1}, {n - 1, d - 1 - 1}, {n / 2, 1}, {n / d, 1}, {n/d + 1, 1}, {1, d / 2}, {3, d / 2}, {d, 1}, {d + 1, d}, {d - 1, d}, {316227, 1}, {316228, 1}, {1, 3162}, {1, 3163},
		// Products of these wrap around to numbers that are valid again.
		{1 << 31, 1}, {1 << 32, 1}, {1<<32 + 1, 1}, {1 << 33, 1}, {1 << 36, 3}, {1 << 32, 3}})
	for num := 1; num <= 7; num++ {
		for den := 1; den <= 6; den++ {
			list = append(list, rat(num, den))
		}
	}
	var valid []impl.Rat
	for _, a := range list {
		if q := big.NewRat(int64(a.Num), int64(a.Den)); q.Num().Int64() == int64(a.Num) {
			valid = append(valid, a)
			if a.Num != 0 {
				valid = append(valid, rat(-a.Num, a.Den))
			}
		}
	}
	return valid
}

// invalidRats returns rational numbers that are not valid.
func invalidRats() []impl.Rat {
	const n, d = impl.MaxNum, impl.MaxDen
	return ratsOf([][2]int{{0, 0}, {0, 2}, {0, -1}, {0, d}, {1, 0}, {-1, 0}, {1, -1}, {-1, -2}, {2, 4}, {-2, 4}, {3, 3}, {d, d}, {n, d}, {n + 1, 1}, {-n - 1, 1}, {1, d + 1}, {-1, d + 1}, {n, d + 1}, {leastInt, 1}, {leastInt, 3}, {greatestInt, 1}, {1, leastInt}, {1, greatestInt}, {leastInt, leastInt}, {greatestInt, greatestInt}, {leastInt, -1}})
}

// ratOf returns a number as a rational number, and whether that is valid.
func ratOf(q *big.Rat) (impl.Rat, bool) {
	if q.Num().CmpAbs(big.NewInt(impl.MaxNum)) > 0 || q.Denom().Cmp(big.NewInt(impl.MaxDen)) > 0 {
		return impl.Rat{}, false
	}
	return rat(int(q.Num().Int64()), int(q.Denom().Int64())), true
}

func bigOf(a impl.Rat) *big.Rat {
	return big.NewRat(int64(a.Num), int64(a.Den))
}

// quotients returns pairs of numbers, valid and not, at the limits and near 0.
func quotients() [][2]int {
	const n, d = impl.MaxNum, impl.MaxDen
	list := []int{0, 1, 2, 3, 4, 6, 9, 10, 15, d - 1, d, d + 1, 3 * d, n / 3, n / 2, n - 1, n, n + 1, 2 * n, greatestInt}
	var pairs [][2]int
	for _, a := range list {
		for _, b := range list {
			pairs = append(pairs, [2]int{a, b}, [2]int{-a, b}, [2]int{a, -b}, [2]int{-a, -b})
		}
	}
	return append(pairs, [2]int{leastInt, 1}, [2]int{1, leastInt}, [2]int{leastInt, leastInt}, [2]int{leastInt, -1})
}

func TestValidRat(t *testing.T) {
	for _, a := range validRats() {
		if !impl.ValidRat(a) {
			t.Errorf("ValidRat(%v) = false", a)
		}
	}
	for _, a := range invalidRats() {
		if impl.ValidRat(a) {
			t.Errorf("ValidRat(%v) = true", a)
		}
	}
}

func TestMakeRatIsExact(t *testing.T) {
	for _, c := range quotients() {
		var want impl.Rat
		ok := within(c[0], -impl.MaxNum, impl.MaxNum) && within(c[1], -impl.MaxNum, impl.MaxNum) && c[1] != 0
		if ok {
			want, ok = ratOf(big.NewRat(int64(c[0]), int64(c[1])))
		}
		if got, gotOk := impl.MakeRat(c[0], c[1]); got != want || gotOk != ok {
			t.Errorf("MakeRat(%d, %d) = %v, %t, want %v, %t", c[0], c[1], got, gotOk, want, ok)
		}
	}
}

func TestMakeRatAtLimits(t *testing.T) {
	const n, d = impl.MaxNum, impl.MaxDen
	for _, c := range []struct {
		num, den int
		want     impl.Rat
		ok       bool
	}{
		{n, 1, rat(n, 1), true}, {-n, -1, rat(n, 1), true}, {n, -1, rat(-n, 1), true},
		{n + 1, 1, rat(0, 0), false}, {-n - 1, 1, rat(0, 0), false},
		{n + 2, 2, rat(0, 0), false}, {2, n + 2, rat(0, 0), false},
		{1, d, rat(1, d), true}, {1, -d, rat(-1, d), true}, {1, d + 1, rat(0, 0), false},
		{2, 2 * d, rat(1, d), true}, {n, n, rat(1, 1), true}, {n, -n, rat(-1, 1), true},
		{0, 5, rat(0, 1), true}, {0, -n, rat(0, 1), true}, {0, 0, rat(0, 0), false}, {7, 0, rat(0, 0), false},
	} {
		if got, ok := impl.MakeRat(c.num, c.den); got != c.want || ok != c.ok {
			t.Errorf("MakeRat(%d, %d) = %v, %t, want %v, %t", c.num, c.den, got, ok, c.want, c.ok)
		}
	}
}

func TestP01QuotientsAreInLowestTerms(t *testing.T) {
	for _, c := range quotients() {
		if !within(c[0], -impl.MaxNum/3, impl.MaxNum/3) || !within(c[1], -impl.MaxNum/3, impl.MaxNum/3) {
			continue
		}
		a, ok := impl.MakeRat(c[0], c[1])
		b, ok3 := impl.MakeRat(3*c[0], 3*c[1])
		if a != b || ok != ok3 {
			t.Errorf("MakeRat(%d, %d) = %v, but %v with both times 3", c[0], c[1], a, b)
		}
		if ok && new(big.Int).GCD(nil, nil, new(big.Int).Abs(big.NewInt(int64(a.Num))), big.NewInt(int64(a.Den))).Int64() != 1 {
			t.Errorf("MakeRat(%d, %d) = %v", c[0], c[1], a)
		}
	}
}

func TestP02SignsCancel(t *testing.T) {
	for _, c := range quotients() {
		a, ok := impl.MakeRat(c[0], c[1])
		b, okNegative := impl.MakeRat(-c[0], -c[1])
		if a != b || ok != okNegative || ok && a.Den <= 0 {
			t.Errorf("MakeRat(%d, %d) = %v, but %v with both negated", c[0], c[1], a, b)
		}
	}
}

func TestP03ValidNumbersAreTheirQuotients(t *testing.T) {
	for _, a := range append(validRats(), invalidRats()...) {
		if !within(a.Den, 1, impl.MaxDen) {
			continue
		}
		if b, ok := impl.MakeRat(a.Num, a.Den); impl.ValidRat(a) != (ok && a == b) {
			t.Errorf("ValidRat(%v) = %t, MakeRat = %v, %t", a, impl.ValidRat(a), b, ok)
		}
	}
}

func TestSumsAndProductsAreExact(t *testing.T) {
	for _, a := range validRats() {
		for _, b := range validRats() {
			sum, sumOk := ratOf(new(big.Rat).Add(bigOf(a), bigOf(b)))
			if got, ok := impl.AddRat(a, b); got != sum || ok != sumOk {
				t.Errorf("AddRat(%v, %v) = %v, %t, want %v, %t", a, b, got, ok, sum, sumOk)
			}
			product, productOk := ratOf(new(big.Rat).Mul(bigOf(a), bigOf(b)))
			if got, ok := impl.MulRat(a, b); got != product || ok != productOk {
				t.Errorf("MulRat(%v, %v) = %v, %t, want %v, %t", a, b, got, ok, product, productOk)
			}
		}
	}
}

func TestSumsAndProductsAtLimits(t *testing.T) {
	const n, d = impl.MaxNum, impl.MaxDen
	for _, c := range []struct {
		f          func(impl.Rat, impl.Rat) (impl.Rat, bool)
		a, b, want impl.Rat
		ok         bool
	}{
		{impl.AddRat, rat(n-1, 1), rat(1, 1), rat(n, 1), true},
		{impl.AddRat, rat(n, 1), rat(1, 1), rat(0, 0), false},
		{impl.AddRat, rat(-n, 1), rat(-1, 1), rat(0, 0), false},
		{impl.AddRat, rat(n, 1), rat(-n, 1), rat(0, 1), true},
		{impl.AddRat, rat(1, d), rat(1, d), rat(1, d/2), true},
		{impl.AddRat, rat(1, d), rat(1, 3), rat(0, 0), false},
		{impl.MulRat, rat(n, 1), rat(1, d), rat(n/d, 1), true},
		{impl.MulRat, rat(n/2, 1), rat(2, 1), rat(n, 1), true},
		{impl.MulRat, rat(n/2+1, 1), rat(2, 1), rat(0, 0), false},
		{impl.MulRat, rat(n, 1), rat(n, 1), rat(0, 0), false},
		{impl.MulRat, rat(-n, 1), rat(n, 1), rat(0, 0), false},
		{impl.MulRat, rat(1<<32, 1), rat(1<<32, 1), rat(0, 0), false},
		{impl.MulRat, rat(1<<32, 1), rat(1<<32+1, 1), rat(0, 0), false},
		{impl.MulRat, rat(-1<<33, 1), rat(1<<31, 1), rat(0, 0), false},
		{impl.MulRat, rat(1, d), rat(1, d), rat(0, 0), false},
		{impl.MulRat, rat(1, d/2), rat(1, 2), rat(1, d), true},
		{impl.MulRat, rat(1, d), rat(1, 3), rat(0, 0), false},
		{impl.MulRat, rat(0, 1), rat(1, d), rat(0, 1), true},
	} {
		if got, ok := c.f(c.a, c.b); got != c.want || ok != c.ok {
			t.Errorf("of %v and %v: %v, %t, want %v, %t", c.a, c.b, got, ok, c.want, c.ok)
		}
	}
}

func TestInvalidRationals(t *testing.T) {
	for _, bad := range invalidRats() {
		for _, a := range append(validRats(), invalidRats()...) {
			for _, c := range [][2]impl.Rat{{a, bad}, {bad, a}} {
				if got, ok := impl.AddRat(c[0], c[1]); ok || got != rat(0, 0) {
					t.Errorf("AddRat(%v, %v) = %v, %t", c[0], c[1], got, ok)
				}
				if got, ok := impl.MulRat(c[0], c[1]); ok || got != rat(0, 0) {
					t.Errorf("MulRat(%v, %v) = %v, %t", c[0], c[1], got, ok)
				}
				if got := impl.CompareRat(c[0], c[1]); got != 2 {
					t.Errorf("CompareRat(%v, %v) = %d", c[0], c[1], got)
				}
			}
		}
		if got := impl.FloorRat(bad); got != 0 {
			t.Errorf("FloorRat(%v) = %d", bad, got)
		}
	}
}

func TestP04AdditionCommutesAndCanBeUndone(t *testing.T) {
	for _, a := range validRats() {
		for _, b := range validRats() {
			sum, ok := impl.AddRat(a, b)
			other, otherOk := impl.AddRat(b, a)
			if sum != other || ok != otherOk {
				t.Errorf("AddRat(%v, %v) = %v, but %v in the other order", a, b, sum, other)
			}
			if back, backOk := impl.AddRat(sum, rat(-b.Num, b.Den)); ok && (!backOk || back != a) {
				t.Errorf("%v + %v - %v = %v", a, b, b, back)
			}
		}
	}
}

func TestP05ZeroChangesNothing(t *testing.T) {
	for _, a := range validRats() {
		if sum, ok := impl.AddRat(a, rat(0, 1)); !ok || sum != a {
			t.Errorf("%v + 0 = %v, %t", a, sum, ok)
		}
	}
}

func TestP06MultiplicationCommutes(t *testing.T) {
	for _, a := range validRats() {
		for _, b := range validRats() {
			ab, ok := impl.MulRat(a, b)
			ba, otherOk := impl.MulRat(b, a)
			if ab != ba || ok != otherOk {
				t.Errorf("MulRat(%v, %v) = %v, but %v in the other order", a, b, ab, ba)
			}
		}
		if one, ok := impl.MulRat(a, rat(1, 1)); !ok || one != a {
			t.Errorf("%v * 1 = %v, %t", a, one, ok)
		}
		if zero, ok := impl.MulRat(a, rat(0, 1)); !ok || zero != rat(0, 1) {
			t.Errorf("%v * 0 = %v, %t", a, zero, ok)
		}
	}
}

func TestP07NumbersHaveInverses(t *testing.T) {
	tested := 0
	for _, a := range validRats() {
		inverse := rat(a.Den, a.Num)
		if a.Num < 0 {
			inverse = rat(-a.Den, -a.Num)
		}
		if a.Num == 0 || !impl.ValidRat(inverse) {
			continue
		}
		tested++
		if one, ok := impl.MulRat(a, inverse); !ok || one != rat(1, 1) {
			t.Errorf("%v * %v = %v, %t", a, inverse, one, ok)
		}
	}
	if tested < 40 {
		t.Errorf("only %d numbers have inverses", tested)
	}
}

func TestP08ProductsAreDistributive(t *testing.T) {
	list := validRats()
	tested := 0
	for _, a := range list {
		for i, b := range list {
			c := list[(7*i+3)%len(list)]
			sum, ok1 := impl.AddRat(b, c)
			left, ok2 := impl.MulRat(a, sum)
			ab, ok3 := impl.MulRat(a, b)
			ac, ok4 := impl.MulRat(a, c)
			right, ok5 := impl.AddRat(ab, ac)
			if !ok1 || !ok2 || !ok3 || !ok4 || !ok5 {
				continue
			}
			tested++
			if left != right {
				t.Errorf("%v * (%v + %v) = %v, but the sum of the products is %v", a, b, c, left, right)
			}
		}
	}
	if tested < 1000 {
		t.Errorf("only %d sums are valid", tested)
	}
}

func TestP09TheOrderIsTotal(t *testing.T) {
	for _, a := range validRats() {
		for _, b := range validRats() {
			c := impl.CompareRat(a, b)
			if c != -impl.CompareRat(b, a) || !within(c, -1, 1) || (c == 0) != (a == b) {
				t.Errorf("CompareRat(%v, %v) = %d", a, b, c)
			}
		}
	}
}

func TestP10DifferencesHaveSigns(t *testing.T) {
	for _, a := range validRats() {
		for _, b := range validRats() {
			c := impl.CompareRat(a, b)
			if c != bigOf(a).Cmp(bigOf(b)) {
				t.Errorf("CompareRat(%v, %v) = %d", a, b, c)
			}
			if difference, ok := impl.AddRat(a, rat(-b.Num, b.Den)); ok && c != impl.CompareRat(difference, rat(0, 1)) {
				t.Errorf("CompareRat(%v, %v) = %d, but the difference is %v", a, b, c, difference)
			}
		}
	}
}

func TestP11RoundingDownIsExact(t *testing.T) {
	for _, a := range validRats() {
		f := impl.FloorRat(a)
		if bigOf(rat(f, 1)).Cmp(bigOf(a)) > 0 || bigOf(rat(f+1, 1)).Cmp(bigOf(a)) <= 0 {
			t.Errorf("FloorRat(%v) = %d", a, f)
		}
	}
	for _, c := range []struct {
		a    impl.Rat
		want int
	}{
		{rat(0, 1), 0}, {rat(-1, impl.MaxDen), -1}, {rat(1, impl.MaxDen), 0}, {rat(-impl.MaxNum, 1), -impl.MaxNum},
		{rat(impl.MaxNum, 1), impl.MaxNum}, {rat(-7, 2), -4}, {rat(7, 2), 3}, {rat(-3, 1), -3},
	} {
		if f := impl.FloorRat(c.a); f != c.want {
			t.Errorf("FloorRat(%v) = %d, want %d", c.a, f, c.want)
		}
	}
}
