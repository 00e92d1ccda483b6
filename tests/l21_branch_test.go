package tests

import (
	"math/big"
	"math/rand"
	"slices"
	"testing"

	"loop.example/integerplanner/impl"
)

func gains(ups int, upSum int, downs int, downSum int) impl.Gains {
	return impl.Gains{Ups: ups, UpSum: upSum, Downs: downs, DownSum: downSum}
}

// edgeGains returns valid gains at the limits, and without gains on one side or both.
func edgeGains() []impl.Gains {
	const n, most = impl.MaxCount, impl.MaxCount * impl.MaxGain
	return []impl.Gains{
		{}, gains(1, 0, 0, 0), gains(0, 0, 1, 0), gains(1, 999, 0, 0), gains(0, 0, 1, 999), gains(1, 999, 1, 999), gains(1, 0, 1, 0), gains(n, 0, n, 0), gains(n, most, n, most), gains(n, most, 0, 0), gains(0, 0, n, most), gains(n, 0, 0, 0), gains(0, 0, n, 0),
		gains(n-1, most-impl.MaxGain, n, most), gains(n, most, n-1, most-impl.MaxGain), gains(n-1, 0, n-1, 0), gains(n, 1, n, most-1), gains(2, 5, 3, 7), gains(4, 8, 6, 2), gains(1, 6, 0, 0), gains(997, 1, 991, 1), gains(500, 999, 501, 998), gains(499, 7, 500, 7),
	}
}

// validGains returns gains with few and many on each side.
func validGains() []impl.Gains {
	list := edgeGains()
	r := numbers()
	for range 120 {
		list = append(list, randomGains(r))
	}
	return list
}

func randomGains(r *rand.Rand) impl.Gains {
	ups, downs := r.Intn([]int{1, 4, impl.MaxCount + 1}[r.Intn(3)]), r.Intn([]int{1, 4, impl.MaxCount + 1}[r.Intn(3)])
	most := []int{0, 3, impl.MaxGain}[r.Intn(3)]
	return gains(ups, r.Intn(ups*most+1), downs, r.Intn(downs*most+1))
}

// invalidGains returns gains with one fault each.
func invalidGains() []impl.Gains {
	list := []impl.Gains{gains(0, 1, 0, 0), gains(0, 0, 0, 1), gains(0, greatestInt, 5, 5), gains(5, 5, 0, greatestInt)}
	for _, n := range []int{-1, impl.MaxCount + 1, 2 * impl.MaxCount, greatestInt, leastInt, 1 << 62} {
		list = append(list, gains(n, 0, 0, 0), gains(0, 0, n, 0), gains(n, 3, 2, 5), gains(2, 5, n, 3), gains(n, 0, impl.MaxCount, 0), gains(impl.MaxCount, 0, n, 0))
	}
	for _, n := range []int{0, 1, 2, impl.MaxCount} {
		for _, sum := range []int{-1, n*impl.MaxGain + 1, greatestInt, leastInt} {
			list = append(list, gains(n, sum, 0, 0), gains(0, 0, n, sum), gains(n, sum, 3, 4), gains(3, 4, n, sum))
		}
	}
	return list
}

// parts returns fractional parts that are not 0: halves, ties, next to 0 and 1, and with large denominators.
func parts() []impl.Rat {
	const d = impl.MaxDen
	list := ratsOf([][2]int{{1, 2}, {1, 3}, {2, 3}, {1, 4}, {3, 4}, {2, 5}, {3, 7}, {1, d}, {d - 1, d}, {1, d - 1}, {d - 2, d - 1}, {1, 3162}, {1, 3163}, {3161, 3162}, {3162, 3163}, {1581, 3161}, {1500, 3001}, {1, 999}, {998, 999}, {1, 9990}, {41, 9990}, {4999999, d}, {5000001, d}, {1, 10010}, {1, 2000000}})
	r := numbers()
	for range 25 {
		den := r.Intn([]int{20, 3000, d}[r.Intn(3)]) + 2
		a, _ := ratOf(big.NewRat(int64(r.Intn(den-1)+1), int64(den)))
		list = append(list, a)
	}
	return list
}

// wrongParts returns valid rational numbers that are not greater than 0 and less than 1.
func wrongParts() []impl.Rat {
	return slices.DeleteFunc(append(validRats(), rat(0, 1), rat(1, 1), rat(-1, 2), rat(3, 2), rat(10000001, 10000000)), func(a impl.Rat) bool {
		return 0 < a.Num && a.Num < a.Den
	})
}

// otherPart returns 1 minus a part.
func otherPart(a impl.Rat) impl.Rat {
	return rat(a.Den-a.Num, a.Den)
}

// swapped returns gains with both sides exchanged.
func swapped(g impl.Gains) impl.Gains {
	return gains(g.Downs, g.DownSum, g.Ups, g.UpSum)
}

// wantPart returns what FractionOf returns for a valid rational number.
func wantPart(a impl.Rat) impl.Rat {
	num := a.Num % a.Den
	if num < 0 {
		num += a.Den
	}
	return rat(num, a.Den)
}

// wantScore returns what BranchScore returns for valid gains and a part.
func wantScore(g impl.Gains, part impl.Rat) (impl.Rat, bool) {
	side := func(sum int, count int, part impl.Rat) (*big.Rat, bool) {
		average := big.NewRat(1, 1)
		if count > 0 {
			average = big.NewRat(int64(sum), int64(count))
		}
		product := new(big.Rat).Mul(average, bigOf(part))
		_, ok := ratOf(product)
		return product, ok
	}
	down, okDown := side(g.DownSum, g.Downs, part)
	up, okUp := side(g.UpSum, g.Ups, otherPart(part))
	score, ok := ratOf(new(big.Rat).Mul(down, up))
	if !okDown || !okUp || !ok {
		return impl.Rat{}, false
	}
	return score, true
}

// wantChoice returns what ChooseBranch returns for valid values and gains.
func wantChoice(x []impl.Rat, list []impl.Gains) int {
	best := -1
	var greatest *big.Rat
	for v, a := range x {
		if a.Den == 1 {
			continue
		}
		if score, ok := wantScore(list[v], wantPart(a)); ok && (best < 0 || bigOf(score).Cmp(greatest) > 0) {
			best, greatest = v, bigOf(score)
		}
	}
	return best
}

// fromHalf returns the distance of a part from 1/2.
func fromHalf(part impl.Rat) *big.Rat {
	distance := new(big.Rat).Sub(bigOf(part), big.NewRat(1, 2))
	return distance.Abs(distance)
}

// wantMiddle returns what MostFractional returns for valid values.
func wantMiddle(x []impl.Rat) int {
	best := -1
	for v, a := range x {
		if a.Den > 1 && (best < 0 || fromHalf(wantPart(a)).Cmp(fromHalf(wantPart(x[best]))) < 0) {
			best = v
		}
	}
	return best
}

// branching has the arguments of ChooseBranch.
type branching struct {
	x    []impl.Rat
	list []impl.Gains
}

// branchings returns valid arguments of ChooseBranch of all sizes, with integers, negative values, and variables of the same score.
func branchings() []branching {
	half, third := rat(1, 2), rat(1, 3)
	list := []branching{
		{nil, nil}, {[]impl.Rat{half}, make([]impl.Gains, 1)}, {[]impl.Rat{rat(3, 1)}, make([]impl.Gains, 1)}, {slices.Repeat([]impl.Rat{half}, 5), make([]impl.Gains, 5)}, {slices.Repeat([]impl.Rat{rat(-7, 1)}, 5), make([]impl.Gains, 5)},
		{[]impl.Rat{third, rat(2, 3), rat(-1, 3), rat(-2, 3), rat(4, 3)}, make([]impl.Gains, 5)}, {[]impl.Rat{rat(1, 3163), rat(1, 3162)}, make([]impl.Gains, 2)}, {[]impl.Rat{rat(1, 3163), rat(1, 10000000)}, make([]impl.Gains, 2)},
	}
	r := numbers()
	all := append(parts(), validRats()...)
	for k := range 1500 {
		var c branching
		for v := range k % (impl.MaxVars + 1) {
			value, _ := ratOf(big.NewRat(int64(r.Intn(40)-15), int64(r.Intn(4)+1)))
			if r.Intn(3) == 0 {
				value = all[r.Intn(len(all))]
			}
			next := randomGains(r)
			if v > 0 && r.Intn(3) == 0 {
				next = c.list[r.Intn(v)]
				if r.Intn(2) == 0 {
					next = swapped(next)
				}
			}
			c.x = append(c.x, value)
			c.list = append(c.list, next)
		}
		list = append(list, c)
	}
	return list
}

func TestLimitsOfGains(t *testing.T) {
	if impl.MaxCount != 999 || impl.MaxGain != 999 {
		t.Error("the limits are wrong")
	}
}

func TestAddGain(t *testing.T) {
	for _, g := range validGains() {
		for _, gain := range []int{0, 1, 7, impl.MaxGain - 1, impl.MaxGain} {
			up, down := gains(g.Ups+1, g.UpSum+gain, g.Downs, g.DownSum), gains(g.Ups, g.UpSum, g.Downs+1, g.DownSum+gain)
			if g.Ups == impl.MaxCount {
				up = impl.Gains{}
			}
			if g.Downs == impl.MaxCount {
				down = impl.Gains{}
			}
			if got, ok := impl.AddGain(g, true, gain); got != up || ok != (g.Ups < impl.MaxCount) {
				t.Errorf("AddGain(%v, true, %d) = %v, %t", g, gain, got, ok)
			}
			if got, ok := impl.AddGain(g, false, gain); got != down || ok != (g.Downs < impl.MaxCount) {
				t.Errorf("AddGain(%v, false, %d) = %v, %t", g, gain, got, ok)
			}
		}
	}
}

func TestAddGainWithInvalidArguments(t *testing.T) {
	check := func(g impl.Gains, gain int) {
		for _, up := range []bool{false, true} {
			if got, ok := impl.AddGain(g, up, gain); got != (impl.Gains{}) || ok {
				t.Errorf("AddGain(%v, %t, %d) = %v, %t", g, up, gain, got, ok)
			}
		}
	}
	for _, g := range invalidGains() {
		for _, gain := range []int{0, 1, impl.MaxGain} {
			check(g, gain)
		}
	}
	for _, g := range validGains() {
		for _, gain := range []int{-1, impl.MaxGain + 1, greatestInt, leastInt} {
			check(g, gain)
		}
	}
}

func TestFractionOf(t *testing.T) {
	const n, d = impl.MaxNum, impl.MaxDen
	for _, c := range [][2]impl.Rat{
		{rat(-3, 2), rat(1, 2)}, {rat(4, 1), rat(0, 1)}, {rat(0, 1), rat(0, 1)}, {rat(-4, 1), rat(0, 1)}, {rat(7, 3), rat(1, 3)}, {rat(-7, 3), rat(2, 3)}, {rat(-1, 3), rat(2, 3)}, {rat(1, 2), rat(1, 2)}, {rat(-1, 2), rat(1, 2)},
		{rat(1, d), rat(1, d)}, {rat(-1, d), rat(d-1, d)}, {rat(d-1, d), rat(d-1, d)}, {rat(1-d, d), rat(1, d)}, {rat(d+1, d), rat(1, d)}, {rat(n, 1), rat(0, 1)}, {rat(-n, 1), rat(0, 1)}, {rat(n-1, d), rat(d-1, d)}, {rat(1-n, d), rat(1, d)}, {rat(n, 3), rat(1, 3)}, {rat(-n, 3), rat(2, 3)},
	} {
		if got := impl.FractionOf(c[0]); got != c[1] {
			t.Errorf("FractionOf(%v) = %v, want %v", c[0], got, c[1])
		}
	}
	for _, a := range append(validRats(), parts()...) {
		if got := impl.FractionOf(a); got != wantPart(a) {
			t.Errorf("FractionOf(%v) = %v, want %v", a, got, wantPart(a))
		}
	}
	for _, a := range invalidRats() {
		if got := impl.FractionOf(a); got != (impl.Rat{}) {
			t.Errorf("FractionOf(%v) = %v", a, got)
		}
	}
}

func TestBranchScore(t *testing.T) {
	made, failed, zero := 0, 0, 0
	for _, g := range validGains() {
		for _, part := range parts() {
			want, ok := wantScore(g, part)
			if got, gotOk := impl.BranchScore(g, part); got != want || gotOk != ok {
				t.Errorf("BranchScore(%v, %v) = %v, %t, want %v, %t", g, part, got, gotOk, want, ok)
			}
			switch {
			case !ok:
				failed++
			case want.Num == 0:
				zero++
			default:
				made++
			}
		}
	}
	if made < 1000 || failed < 1000 || zero < 100 {
		t.Errorf("%d scores, %d of them 0, and %d fail", made+zero, zero, failed)
	}
}

func TestScores(t *testing.T) {
	for _, c := range []struct {
		g    impl.Gains
		part impl.Rat
		want impl.Rat
	}{
		// Without gains an average is 1, also on one side only.
		{impl.Gains{}, rat(1, 2), rat(1, 4)}, {impl.Gains{}, rat(1, 3), rat(2, 9)}, {gains(1, 6, 0, 0), rat(1, 3), rat(4, 3)}, {gains(0, 0, 1, 6), rat(1, 3), rat(4, 3)}, {gains(1, 6, 0, 0), rat(1, 4), rat(9, 8)}, {gains(0, 0, 1, 6), rat(1, 4), rat(9, 8)},
		// Gains down count with the part, and gains up with the rest.
		{gains(2, 4, 3, 15), rat(1, 5), rat(8, 5)}, {gains(2, 5, 3, 7), rat(1, 3), rat(35, 27)}, {gains(2, 0, 3, 7), rat(1, 3), rat(0, 1)}, {gains(2, 5, 3, 0), rat(1, 3), rat(0, 1)},
		// The product of both sides has a denominator of 9998244, or one that is too large.
		{impl.Gains{}, rat(1, 3162), rat(3161, 9998244)}, {impl.Gains{}, rat(1, 3163), rat(0, 0)}, {impl.Gains{}, rat(3162, 3163), rat(0, 0)}, {gains(0, 0, 1, 10), rat(1, 10000), rat(9999, 10000000)}, {gains(0, 0, 1, 9), rat(1, 10000), rat(0, 0)},
		// A side has a denominator that is too large, with or without a part of the product that is 0.
		{gains(0, 0, 999, 1), rat(1, 10010), rat(0, 0)}, {gains(999, 0, 999, 1), rat(1, 10010), rat(0, 1)}, {gains(999, 0, 999, 1), rat(1, 10011), rat(0, 0)}, {gains(999, 1, 999, 0), rat(10009, 10010), rat(0, 1)}, {gains(999, 1, 999, 0), rat(10010, 10011), rat(0, 0)},
		// A numerator is near its limit, or too large.
		{gains(1, 999, 1, 999), rat(200, 701), rat(99999700200, 491401)}, {gains(1, 999, 1, 999), rat(97, 1130), rat(0, 0)}, {gains(1, 999, 1, 999), rat(1033, 1130), rat(0, 0)}, {gains(1, 999, 1, 999), rat(1500, 3001), rat(0, 0)},
		{gains(1, 999, 1, 999), rat(1, 10000000), rat(0, 0)}, {gains(999, 998001, 999, 998001), rat(1, 2), rat(998001, 4)},
	} {
		if got, ok := impl.BranchScore(c.g, c.part); got != c.want || ok != (c.want.Den > 0) {
			t.Errorf("BranchScore(%v, %v) = %v, %t, want %v", c.g, c.part, got, ok, c.want)
		}
	}
}

func TestBranchScoreWithInvalidArguments(t *testing.T) {
	check := func(g impl.Gains, part impl.Rat) {
		if got, ok := impl.BranchScore(g, part); got != (impl.Rat{}) || ok {
			t.Errorf("BranchScore(%v, %v) = %v, %t", g, part, got, ok)
		}
	}
	for _, g := range invalidGains() {
		check(g, rat(1, 2))
		check(g, rat(1, 3))
	}
	for _, g := range validGains() {
		for _, part := range append(invalidRats(), wrongParts()...) {
			check(g, part)
		}
	}
}

func TestChooseBranch(t *testing.T) {
	chosen, without, failed := 0, 0, 0
	for _, c := range branchings() {
		want := wantChoice(c.x, c.list)
		if got := impl.ChooseBranch(c.x, c.list); got != want {
			t.Errorf("ChooseBranch(%v, %v) = %d, want %d", c.x, c.list, got, want)
		}
		if want > 0 {
			chosen++
		}
		if want < 0 {
			without++
		}
		for v, a := range c.x {
			if _, ok := wantScore(c.list[v], wantPart(a)); a.Den > 1 && want >= 0 && !ok {
				failed++
			}
		}
	}
	if chosen < 300 || without < 100 || failed < 100 {
		t.Errorf("%d choices are not the first variable, %d are none; %d scores fail beside others", chosen, without, failed)
	}
}

func TestChoices(t *testing.T) {
	half, none := rat(1, 2), impl.Gains{}
	for _, c := range []struct {
		x    []impl.Rat
		list []impl.Gains
		want int
	}{
		{[]impl.Rat{rat(2, 1), rat(4, 3), half}, []impl.Gains{gains(1, 6, 0, 0), gains(1, 6, 0, 0), none}, 1}, {[]impl.Rat{rat(2, 1), rat(4, 3), half}, []impl.Gains{none, none, none}, 2},
		// Of several with the same score, the first one counts, whatever its value is.
		{[]impl.Rat{rat(1, 3), rat(2, 3)}, []impl.Gains{none, none}, 0}, {[]impl.Rat{rat(5, 1), rat(-2, 3), rat(1, 3)}, []impl.Gains{none, none, none}, 1}, {[]impl.Rat{rat(1, 4), half, rat(3, 2), rat(-1, 2)}, []impl.Gains{none, none, none, none}, 1}, {[]impl.Rat{half, half}, []impl.Gains{gains(1, 2, 1, 3), gains(1, 3, 1, 2)}, 0},
		// A score of 0 is a score, and one that fails is none.
		{[]impl.Rat{rat(3, 1), half, rat(1, 3)}, []impl.Gains{none, gains(1, 0, 0, 0), gains(0, 0, 2, 0)}, 1}, {[]impl.Rat{half, rat(1, 3)}, []impl.Gains{gains(1, 0, 0, 0), none}, 1}, {[]impl.Rat{rat(1, 5000), half}, []impl.Gains{none, gains(4, 0, 0, 0)}, 1}, {[]impl.Rat{half, rat(1, 5000)}, []impl.Gains{gains(4, 0, 0, 0), none}, 0}, {[]impl.Rat{rat(1, 5000), rat(4, 1)}, []impl.Gains{none, none}, -1},
		// Values are negative, and only their parts count.
		{[]impl.Rat{rat(-1, 4), rat(-7, 4)}, []impl.Gains{gains(1, 4, 1, 1), gains(1, 5, 1, 1)}, 1}, {[]impl.Rat{rat(-1, 4), rat(-3, 4)}, []impl.Gains{gains(0, 0, 1, 2), gains(1, 2, 0, 0)}, 0},
		{nil, nil, -1}, {[]impl.Rat{}, []impl.Gains{}, -1}, {slices.Repeat([]impl.Rat{half}, 5), make([]impl.Gains, 5), 0}, {[]impl.Rat{rat(0, 1), rat(1, 1), rat(-1, 1), rat(9, 1), half}, make([]impl.Gains, 5), 4}, {slices.Repeat([]impl.Rat{rat(1, 1)}, 5), make([]impl.Gains, 5), -1},
		{slices.Repeat([]impl.Rat{half}, 6), make([]impl.Gains, 6), -1}, {[]impl.Rat{half}, nil, -1}, {nil, make([]impl.Gains, 1), -1}, {[]impl.Rat{half, half}, make([]impl.Gains, 1), -1}, {[]impl.Rat{half}, make([]impl.Gains, 2), -1}, {slices.Repeat([]impl.Rat{half}, 5), make([]impl.Gains, 6), -1}, {slices.Repeat([]impl.Rat{half}, 6), make([]impl.Gains, 5), -1}, {slices.Repeat([]impl.Rat{half}, 1000), make([]impl.Gains, 1000), -1},
	} {
		if got := impl.ChooseBranch(c.x, c.list); got != c.want {
			t.Errorf("ChooseBranch(%v, %v) = %d, want %d", c.x, c.list, got, c.want)
		}
	}
}

func TestChoicesWithInvalidArguments(t *testing.T) {
	for n := 1; n <= impl.MaxVars; n++ {
		for at := range n {
			for _, value := range []impl.Rat{rat(1, 2), rat(3, 1)} {
				x, list := slices.Repeat([]impl.Rat{value}, n), make([]impl.Gains, n)
				for _, a := range invalidRats() {
					wrong := changedRat(x, at, a)
					if got := impl.ChooseBranch(wrong, list); got != -1 {
						t.Errorf("ChooseBranch(%v) = %d", wrong, got)
					}
					if got := impl.MostFractional(wrong); got != -1 {
						t.Errorf("MostFractional(%v) = %d", wrong, got)
					}
				}
				for _, g := range invalidGains() {
					wrong := slices.Clone(list)
					wrong[at] = g
					// Gains must be valid even for a variable that is an integer.
					if got := impl.ChooseBranch(changedRat(x, n-1, rat(1, 2)), wrong); got != -1 {
						t.Errorf("ChooseBranch(%v, %v) = %d", x, wrong, got)
					}
				}
			}
		}
	}
}

func TestMostFractional(t *testing.T) {
	for _, c := range branchings() {
		if got, want := impl.MostFractional(c.x), wantMiddle(c.x); got != want {
			t.Errorf("MostFractional(%v) = %d, want %d", c.x, got, want)
		}
	}
	const d = impl.MaxDen
	half := rat(1, 2)
	for _, c := range []struct {
		x    []impl.Rat
		want int
	}{
		{[]impl.Rat{rat(2, 1), rat(4, 3), half}, 2}, {[]impl.Rat{rat(2, 1)}, -1}, {[]impl.Rat{rat(2, 1), rat(4, 3)}, 1}, {nil, -1}, {[]impl.Rat{}, -1},
		// Two parts with the same distance from 1/2, on both sides of it.
		{[]impl.Rat{rat(1, 3), rat(2, 3)}, 0}, {[]impl.Rat{rat(2, 3), rat(1, 3)}, 0}, {[]impl.Rat{rat(1, 5), rat(-3, 4), rat(3, 4)}, 1}, {[]impl.Rat{rat(1, 5), rat(7, 4), rat(-3, 4)}, 1},
		{[]impl.Rat{rat(4999999, d), rat(5000001, d)}, 0}, {[]impl.Rat{rat(4999999, d-1), rat(5000001, d)}, 0}, {[]impl.Rat{rat(4999999, d), rat(5000000, d-1)}, 1}, {[]impl.Rat{rat(5000001, d), rat(4999999, d), half}, 2},
		// Next to an integer, on both sides of it.
		{[]impl.Rat{rat(1, d), rat(d-1, d)}, 0}, {[]impl.Rat{rat(1, d), rat(d-2, d-1)}, 1}, {[]impl.Rat{rat(7, 1), rat(-1, d)}, 1}, {[]impl.Rat{rat(1, d), rat(1-d, d), rat(8, 1)}, 0},
		{[]impl.Rat{rat(-8, 1), rat(0, 1), rat(impl.MaxNum, 1), rat(-impl.MaxNum, 1), rat(1, 1)}, -1}, {slices.Repeat([]impl.Rat{half}, 5), 0}, {[]impl.Rat{rat(1, 3), rat(1, 3), rat(3, 2), rat(-3, 2), half}, 2},
		{slices.Repeat([]impl.Rat{half}, 6), -1}, {slices.Repeat([]impl.Rat{rat(1, 1)}, 6), -1}, {slices.Repeat([]impl.Rat{half}, 1000), -1},
	} {
		if got := impl.MostFractional(c.x); got != c.want {
			t.Errorf("MostFractional(%v) = %d, want %d", c.x, got, c.want)
		}
	}
}

func TestP135GainsAreCountedOnTheirSide(t *testing.T) {
	for _, g := range validGains() {
		for gain := 0; gain <= impl.MaxGain; gain += 27 {
			if got, ok := impl.AddGain(g, true, gain); ok && (got.Ups-g.Ups != 1 || got.UpSum-g.UpSum != gain || got.Downs != g.Downs || got.DownSum != g.DownSum) {
				t.Errorf("AddGain(%v, true, %d) = %v", g, gain, got)
			}
			got, ok := impl.AddGain(g, false, gain)
			if ok && (got.Downs-g.Downs != 1 || got.DownSum-g.DownSum != gain || got.Ups != g.Ups || got.UpSum != g.UpSum) {
				t.Errorf("AddGain(%v, false, %d) = %v", g, gain, got)
			}
			if mirror, mirrorOk := impl.AddGain(swapped(g), true, gain); mirrorOk != ok || mirror != swapped(got) {
				t.Errorf("AddGain(%v, false, %d) = %v, %t, but with both sides exchanged %v, %t", g, gain, got, ok, mirror, mirrorOk)
			}
		}
	}
	// Each side can take MaxCount gains, one after the other.
	g, ok := impl.Gains{}, true
	for range 2 * impl.MaxCount {
		if g.Ups < impl.MaxCount {
			g, ok = impl.AddGain(g, true, impl.MaxGain)
		} else {
			g, ok = impl.AddGain(g, false, impl.MaxGain)
		}
		if !ok {
			t.Fatalf("AddGain fails at %v", g)
		}
	}
	if g != gains(999, 998001, 999, 998001) {
		t.Errorf("%v after all gains", g)
	}
}

func TestP136NumbersAreIntegersPlusParts(t *testing.T) {
	for _, a := range append(validRats(), parts()...) {
		part := impl.FractionOf(a)
		sum, ok := impl.AddRat(part, rat(impl.FloorRat(a), 1))
		if impl.CompareRat(part, rat(0, 1)) < 0 || impl.CompareRat(part, rat(1, 1)) != -1 || !ok || sum != a {
			t.Errorf("FractionOf(%v) = %v, and %v, %t with FloorRat", a, part, sum, ok)
		}
	}
}

func TestP137UpAndDownAreAlike(t *testing.T) {
	for _, g := range validGains() {
		for _, part := range parts() {
			a, ok := impl.BranchScore(g, part)
			b, otherOk := impl.BranchScore(swapped(g), otherPart(part))
			if a != b || ok != otherOk {
				t.Errorf("BranchScore(%v, %v) = %v, %t, but on the other side %v, %t", g, part, a, ok, b, otherOk)
			}
		}
	}
}

func TestP138TheChosenVariableHasTheGreatestScore(t *testing.T) {
	for _, c := range branchings() {
		chosen := impl.ChooseBranch(c.x, c.list)
		var greatest impl.Rat
		if chosen >= 0 {
			score, ok := impl.BranchScore(c.list[chosen], impl.FractionOf(c.x[chosen]))
			if c.x[chosen].Den == 1 || !ok {
				t.Errorf("ChooseBranch(%v, %v) = %d", c.x, c.list, chosen)
			}
			greatest = score
		}
		for v, a := range c.x {
			score, ok := impl.BranchScore(c.list[v], impl.FractionOf(a))
			if ok && (chosen < 0 || impl.CompareRat(score, greatest) > 0 || v < chosen && score == greatest) {
				t.Errorf("ChooseBranch(%v, %v) = %d, but %d has the score %v", c.x, c.list, chosen, v, score)
			}
		}
	}
}

func TestP139OnlyIntegersHaveNothingToBranchOn(t *testing.T) {
	integers := 0
	for _, c := range branchings() {
		chosen := impl.MostFractional(c.x)
		fractional := slices.ContainsFunc(c.x, func(a impl.Rat) bool { return a.Den > 1 })
		if fractional != (chosen >= 0) {
			t.Errorf("MostFractional(%v) = %d", c.x, chosen)
		}
		if chosen < 0 {
			integers++
			continue
		}
		for _, a := range c.x {
			if fromHalf(impl.FractionOf(a)).Cmp(fromHalf(impl.FractionOf(c.x[chosen]))) < 0 {
				t.Errorf("MostFractional(%v) = %d, but %v is nearer to 1/2", c.x, chosen, a)
			}
		}
	}
	if integers < 100 {
		t.Errorf("only %d points are integers", integers)
	}
}

func TestBranchingArgumentsAreNotChanged(t *testing.T) {
	for _, c := range append(branchings(), branching{slices.Repeat([]impl.Rat{rat(1, 2)}, 6), make([]impl.Gains, 6)}, branching{[]impl.Rat{rat(2, 4)}, make([]impl.Gains, 1)}, branching{[]impl.Rat{rat(1, 2)}, invalidGains()[:1]}) {
		n := len(c.x)
		x := append(slices.Clone(c.x), rat(mark, 2), rat(mark, 3))[:n]
		list := append(slices.Clone(c.list), gains(mark, mark, 0, 0), gains(mark, mark, 1, 1))[:n]
		checkMemory(t, "a function of chapter 21", []any{x, list}, func() []any {
			return []any{impl.ChooseBranch(x, list), impl.MostFractional(x)}
		})
	}
}
