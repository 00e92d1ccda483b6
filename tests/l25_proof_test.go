package tests

import (
	"math/big"
	"math/rand"
	"slices"
	"testing"

	"loop.example/integerplanner/impl"
)

// split returns a claim that divides a box.
func split(v int, at int) impl.Claim {
	return impl.Claim{Kind: impl.ClaimSplit, Var: v, At: at}
}

// bound returns a claim that proves a bound.
func bound(den int, weights ...int) impl.Claim {
	return impl.Claim{Kind: impl.ClaimBound, Weights: weights, Den: den}
}

// none returns a claim that proves that there is no point.
func none(weights ...int) impl.Claim {
	return impl.Claim{Kind: impl.ClaimNone, Weights: weights}
}

func claims(list ...impl.Claim) []impl.Claim {
	return list
}

func sameClaim(a impl.Claim, b impl.Claim) bool {
	return a.Kind == b.Kind && a.Var == b.Var && a.At == b.At && a.Den == b.Den && slices.Equal(a.Weights, b.Weights)
}

// changedClaim returns a copy of claims with one of them changed.
func changedClaim(list []impl.Claim, at int, change func(c *impl.Claim)) []impl.Claim {
	other := slices.Clone(list)
	other[at].Weights = slices.Clone(other[at].Weights)
	change(&other[at])
	return other
}

// spareClaims returns a copy of claims with marks in the spare capacity of all slices.
func spareClaims(list []impl.Claim) []impl.Claim {
	long := make([]impl.Claim, 0, len(list)+3)
	for _, c := range list {
		c.Weights = spare(c.Weights)
		long = append(long, c)
	}
	for i := len(long); i < cap(long); i++ {
		long[:cap(long)][i] = impl.Claim{Kind: mark}
	}
	return long
}

// parityProblems returns problems whose least cost is not told by the relaxation, most of them without feasible points.
func parityProblems() []impl.Problem {
	list := []impl.Problem{
		problem(ints(1, 1), ints(4, 4), row(3, 5, 2, 2)), problem(ints(1), ints(9), row(3, 9, 2)), problem(ints(3, 2), ints(4, 4), row(2, 5, 2, 1)), problem(ints(5, 4), ints(9, 9), row(2, 19, 5, 4)), problem(ints(10, 7), ints(9, 9), row(2, 17, 3, 2)), problem(ints(0, 0), ints(3, 3), row(3, 3, 2, 4)),
	}
	r := numbers()
	for k := range 150 {
		n := k%3 + 2
		p := problem(randomNumbers(r, n, 2, 9), randomNumbers(r, n, 1, 5))
		sense := []int{impl.Equal, impl.Equal, impl.AtLeast}[k%3]
		for range k%2 + 1 {
			p.Rows = append(p.Rows, row(sense, r.Intn(30)+3, randomNumbers(r, n, 2, 9)...))
		}
		list = append(list, p)
	}
	return list
}

// deepProof is a problem whose proof of a goal has very many claims.
type deepProof struct {
	p    impl.Problem
	goal int
	size int
}

func deepProofs() []deepProof {
	return []deepProof{
		{problem(ints(8, 8, 1), ints(9, 4, 6), row(3, 49, 6, 6, 4)), impl.MaxGoal, 99}, {problem(ints(4, 5, 3, 5), ints(9, 7, 9, 9), row(3, 39, 3, 3, 7, 3)), 33, 99}, {problem(ints(0, 1, 8, 7), ints(8, 4, 2, 9), row(3, 27, 6, 8, 8, 2)), impl.MaxGoal, 101}, {problem(ints(9, 6, 6, 5), ints(3, 8, 7, 8), row(3, 59, 4, 7, 2, 7)), 59, 101},
		{problem(ints(5, 1, 4, 3), ints(9, 2, 2, 5), row(3, 35, 8, 8, 5, 8)), impl.MaxGoal, 95}, {problem(ints(6, 6, 7, 7), ints(9, 3, 5, 7), row(2, 28, 9, 7, 9, 9)), 24, 103},
	}
}

// proofProblems returns problems of all sizes that do not have very many points.
func proofProblems() []impl.Problem {
	list := slices.Concat(edgeProblems(), validProblems()[100:], tiedProblems()[:40], demandProblems()[:60], contradictions()[:40], parityProblems())
	return slices.DeleteFunc(list, func(p impl.Problem) bool { return len(pointsOf(p)) > 4000 })
}

// goalsOf returns goals for a problem, those near its least cost among them.
func goalsOf(p impl.Problem) []int {
	_, least, _ := wantCheapest(p)
	if least < 0 {
		return ints(0, 1, 17, impl.MaxGoal)
	}
	return ints(0, 1, least/2, max(0, least-1), least, least+1, impl.MaxGoal)
}

// wrongGoals returns what is not a goal.
func wrongGoals() []int {
	return ints(-1, impl.MaxGoal+1, greatestInt, leastInt)
}

// wantProofRows returns what ProofRows returns for a valid box of a valid problem.
func wantProofRows(p impl.Problem, b impl.Box) []impl.Row {
	list := wantCover(problem(p.Costs, b.High, p.Rows...))
	for v, low := range b.Low {
		list = append(list, row(impl.AtLeast, low, changed(make([]int, len(b.Low)), v, 1)...))
	}
	return list
}

// wantLeaf returns what CheckLeaf returns for a valid box of a valid problem.
func wantLeaf(p impl.Problem, b impl.Box, c impl.Claim, goal int) bool {
	rows := wantProofRows(p, b)
	if !within(goal, 0, impl.MaxGoal) || c.Var != 0 || c.At != 0 || len(c.Weights) != len(rows) || slices.Min(c.Weights) < 0 || slices.Max(c.Weights) > impl.MaxEntry {
		return false
	}
	times := func(a int, b int) *big.Int { return new(big.Int).Mul(big.NewInt(int64(a)), big.NewInt(int64(b))) }
	most, least := make([]*big.Int, len(p.Costs)), new(big.Int)
	switch {
	case c.Kind == impl.ClaimNone && c.Den == 0:
		for v := range most {
			most[v] = new(big.Int)
		}
	case c.Kind == impl.ClaimBound && within(c.Den, 1, impl.MaxEntry):
		for v, cost := range p.Costs {
			most[v] = times(c.Den, cost)
		}
		least = times(c.Den, goal-1)
	default:
		return false
	}
	for v := range most {
		sum := new(big.Int)
		for i, r := range rows {
			sum.Add(sum, times(c.Weights[i], r.Coefs[v]))
		}
		if sum.Cmp(most[v]) > 0 {
			return false
		}
	}
	sum := new(big.Int)
	for i, r := range rows {
		sum.Add(sum, times(c.Weights[i], r.Bound))
	}
	return sum.Cmp(least) > 0
}

// leavesFrom returns the boxes of the leaves of the proof for a box with which a list begins, and the rest of the list.
func leavesFrom(b impl.Box, list []impl.Claim) ([]impl.Box, []impl.Claim, bool) {
	if len(list) == 0 {
		return nil, nil, false
	}
	c, rest := list[0], list[1:]
	if c.Kind != impl.ClaimSplit {
		return boxes(b), rest, true
	}
	if !within(c.Var, 0, len(b.Low)-1) || !within(c.At, b.Low[c.Var], b.High[c.Var]-1) || len(c.Weights) > 0 || c.Den != 0 {
		return nil, nil, false
	}
	first, rest, ok := leavesFrom(box(b.Low, changed(b.High, c.Var, c.At)), rest)
	if !ok {
		return nil, nil, false
	}
	second, rest, ok := leavesFrom(box(changed(b.Low, c.Var, c.At+1), b.High), rest)
	return append(first, second...), rest, ok
}

// wantLeaves returns what ProofBoxes returns for a valid problem.
func wantLeaves(p impl.Problem, list []impl.Claim) []impl.Box {
	all, rest, ok := leavesFrom(wholeBox(p), list)
	if !ok || len(rest) > 0 || len(list) > impl.MaxClaims {
		return nil
	}
	return all
}

// wantProved returns what CheckProof returns for a valid problem.
func wantProved(p impl.Problem, list []impl.Claim, goal int) bool {
	all := wantLeaves(p, list)
	if len(all) == 0 {
		return false
	}
	for _, c := range list {
		if c.Kind == impl.ClaimSplit {
			continue
		}
		if !wantLeaf(p, all[0], c, goal) {
			return false
		}
		all = all[1:]
	}
	return true
}

// wantClaim returns the claim of MakeProof for a valid box of a valid problem, and whether there is one.
func wantClaim(p impl.Problem, b impl.Box, goal int) (impl.Claim, bool) {
	path, code := pathFrom(wantDict(p.Costs, wantProofRows(p, b)))
	d := path[len(path)-1]
	last := d.Grid[len(d.Basic)][len(d.Free)]
	switch {
	case code == impl.StepNone:
		return none(refutationIn(d)...), true
	case code == impl.StepBest && last > d.Det*(goal-1):
		return bound(d.Det, multipliersIn(d)...), true
	case code == impl.StepBest:
		for v, a := range valuesIn(d) {
			if a%d.Det != 0 {
				return split(v, a/d.Det), true
			}
		}
	}
	return impl.Claim{}, false
}

// wantMade returns the proof of MakeProof for a valid box of a valid problem, and whether there is one of at most so many claims.
func wantMade(p impl.Problem, b impl.Box, goal int, most int) ([]impl.Claim, bool) {
	c, ok := wantClaim(p, b, goal)
	if !ok || most < 1 {
		return nil, false
	}
	if c.Kind != impl.ClaimSplit {
		return claims(c), true
	}
	first, ok := wantMade(p, box(b.Low, changed(b.High, c.Var, c.At)), goal, most-1)
	if !ok {
		return nil, false
	}
	second, ok := wantMade(p, box(changed(b.Low, c.Var, c.At+1), b.High), goal, most-1-len(first))
	return slices.Concat(claims(c), first, second), ok
}

// leavesFor returns claims for a box, right ones and others, for a goal.
func leavesFor(p impl.Problem, b impl.Box, goal int) []impl.Claim {
	n := len(wantProofRows(p, b))
	zero := make([]int, n)
	list := claims(impl.Claim{}, bound(1, zero...), none(zero...), bound(1), none(), split(0, 0), impl.Claim{Kind: impl.ClaimSplit, Weights: zero}, bound(impl.MaxEntry, slices.Repeat(ints(impl.MaxEntry), n)...), none(slices.Repeat(ints(impl.MaxEntry), n)...))
	c, ok := wantClaim(p, b, goal)
	if !ok || c.Kind == impl.ClaimSplit {
		// What proves nothing less is at least near to a proof.
		c, ok = wantClaim(p, b, 0)
	}
	if !ok {
		return list
	}
	list = append(list, c, impl.Claim{Kind: c.Kind, Weights: append(slices.Clone(c.Weights), 0), Den: c.Den}, impl.Claim{Kind: c.Kind, Weights: c.Weights[1:], Den: c.Den})
	for i, a := range c.Weights {
		for _, other := range []int{a + 1, a - 1, a + a/3 + 2, impl.MaxEntry, impl.MaxEntry + 1, greatestInt, leastInt} {
			list = append(list, impl.Claim{Kind: c.Kind, Weights: changed(c.Weights, i, other), Den: c.Den})
		}
	}
	for _, change := range []func(c *impl.Claim){
		func(c *impl.Claim) { c.Kind = 5 - c.Kind }, func(c *impl.Claim) { c.Kind, c.Den = impl.ClaimNone, 0 }, func(c *impl.Claim) { c.Kind, c.Den = impl.ClaimBound, c.Den+1 }, func(c *impl.Claim) { c.Kind = impl.ClaimSplit }, func(c *impl.Claim) { c.Kind = 0 }, func(c *impl.Claim) { c.Kind = 4 }, func(c *impl.Claim) { c.Kind = leastInt },
		func(c *impl.Claim) { c.Var = 1 }, func(c *impl.Claim) { c.Var = -1 }, func(c *impl.Claim) { c.At = 1 }, func(c *impl.Claim) { c.At = leastInt },
		func(c *impl.Claim) { c.Den++ }, func(c *impl.Claim) { c.Den-- }, func(c *impl.Claim) { c.Den *= -1 }, func(c *impl.Claim) { c.Den = impl.MaxEntry }, func(c *impl.Claim) { c.Den = impl.MaxEntry + 1 }, func(c *impl.Claim) { c.Den = greatestInt }, func(c *impl.Claim) { c.Den = leastInt },
	} {
		list = append(list, changedClaim(claims(c), 0, change)...)
	}
	return list
}

// randomProof returns a proof for a box with a number of splits, or fewer if there are not so many; its leaves prove nothing.
func randomProof(r *rand.Rand, b impl.Box, splits int) []impl.Claim {
	var open []int
	for v, low := range b.Low {
		if low < b.High[v] {
			open = append(open, v)
		}
	}
	if splits == 0 || len(open) == 0 {
		return claims(impl.Claim{Kind: []int{impl.ClaimBound, impl.ClaimNone, 0, 4, -1}[r.Intn(5)], Var: r.Intn(2) * 9, At: r.Intn(2) * 9, Den: r.Intn(2)})
	}
	v := open[r.Intn(len(open))]
	at := b.Low[v] + r.Intn(b.High[v]-b.Low[v])
	first := randomProof(r, box(b.Low, changed(b.High, v, at)), r.Intn(splits))
	second := randomProof(r, box(changed(b.Low, v, at+1), b.High), splits-1-(len(first)-1)/2)
	return slices.Concat(claims(split(v, at)), first, second)
}

// fullProof returns a proof for a box with a number of splits, half of them in each part, as far as there are several points.
func fullProof(b impl.Box, splits int) []impl.Claim {
	for v, low := range b.Low {
		if high := b.High[v]; splits > 0 && low < high {
			at := (low + high) / 2
			first := fullProof(box(b.Low, changed(b.High, v, at)), (splits-1)/2)
			return slices.Concat(claims(split(v, at)), first, fullProof(box(changed(b.Low, v, at+1), b.High), splits-1-(splits-1)/2))
		}
	}
	return claims(none())
}

// proofsFor returns lists of claims for a problem, most of them with the form of a proof or nearly so.
func proofsFor(r *rand.Rand, p impl.Problem) [][]impl.Claim {
	list := [][]impl.Claim{nil, claims(none()), claims(bound(1)), claims(impl.Claim{}), claims(none(), none()), claims(split(0, 0)), claims(split(0, 0), none()), claims(split(0, 0), none(), none(), none())}
	for k := range 8 {
		right := randomProof(r, wholeBox(p), k)
		list = append(list, right, append(slices.Clone(right), bound(1)), append(slices.Clone(right), split(0, 0)), right[:len(right)-1], right[1:])
		at := r.Intn(len(right))
		for _, change := range []func(c *impl.Claim){
			func(c *impl.Claim) { c.At++ }, func(c *impl.Claim) { c.At-- }, func(c *impl.Claim) { c.At = -1 }, func(c *impl.Claim) { c.At = 9 }, func(c *impl.Claim) { c.At = greatestInt }, func(c *impl.Claim) { c.At = leastInt },
			func(c *impl.Claim) { c.Var++ }, func(c *impl.Claim) { c.Var-- }, func(c *impl.Claim) { c.Var = len(p.Costs) }, func(c *impl.Claim) { c.Var = greatestInt }, func(c *impl.Claim) { c.Var = leastInt },
			func(c *impl.Claim) { c.Weights = ints(0) }, func(c *impl.Claim) { c.Den = 1 }, func(c *impl.Claim) { c.Den = -1 }, func(c *impl.Claim) { c.Kind = impl.ClaimSplit }, func(c *impl.Claim) { c.Kind = impl.ClaimNone },
		} {
			list = append(list, changedClaim(right, at, change), changedClaim(right, 0, change))
		}
	}
	return list
}

func TestLimitsOfProofs(t *testing.T) {
	if impl.MaxGoal != 9999 || impl.MaxClaims != 99 || impl.ClaimSplit != 1 || impl.ClaimBound != 2 || impl.ClaimNone != 3 {
		t.Error("the limits or the kinds are wrong")
	}
}

func TestProofRows(t *testing.T) {
	for _, p := range append(proofProblems(), relaxProblems()...) {
		for _, b := range validBoxes(p) {
			if got := impl.ProofRows(p, b); !slices.EqualFunc(got, wantProofRows(p, b), sameRow) {
				t.Errorf("ProofRows(%v, %v) = %v", p, b, got)
			}
		}
	}
	for _, c := range []struct {
		p    impl.Problem
		b    impl.Box
		want []impl.Row
	}{
		{problem(ints(1), ints(0)), box(ints(0), ints(0)), []impl.Row{row(2, 0, -1), row(2, 0, 1)}}, {problem(ints(1), ints(9)), box(ints(4), ints(4)), []impl.Row{row(2, -4, -1), row(2, 4, 1)}},
		{problem(ints(1, 2), ints(3, 4), row(3, 5, 1, -2), row(1, -6, 0, 7), row(2, 8, -9, 3)), box(ints(1, 0), ints(3, 2)), []impl.Row{row(2, 5, 1, -2), row(2, -5, -1, 2), row(2, 6, 0, -7), row(2, 8, -9, 3), row(2, -3, -1, 0), row(2, -2, 0, -1), row(2, 1, 1, 0), row(2, 0, 0, 1)}},
	} {
		if got := impl.ProofRows(c.p, c.b); !slices.EqualFunc(got, c.want, sameRow) {
			t.Errorf("ProofRows(%v, %v) = %v", c.p, c.b, got)
		}
	}
	equalities := problem(ints(1, 1, 1, 1, 1), ints(9, 9, 9, 9, 9), slices.Repeat([]impl.Row{row(3, 99, 9, 9, 9, 9, 9)}, impl.MaxRows)...)
	if got := len(impl.ProofRows(equalities, wholeBox(equalities))); got != 22 {
		t.Errorf("%d rows of equalities", got)
	}
}

func TestCheckLeaf(t *testing.T) {
	bounds, nones, refused := 0, 0, 0
	for k, p := range proofProblems() {
		goals := goalsOf(p)
		for i, b := range validBoxes(p) {
			goal := goals[(k+i)%len(goals)]
			if (k+i)%3 > 0 {
				continue
			}
			for _, c := range leavesFor(p, b, goal) {
				for _, g := range []int{goal, goal + 1, goal - 1} {
					want := wantLeaf(p, b, c, g)
					if got := impl.CheckLeaf(p, b, c, g); got != want {
						t.Errorf("CheckLeaf(%v, %v, %v, %d) = %t", p, b, c, g, got)
					}
					switch {
					case !want:
						refused++
					case c.Kind == impl.ClaimNone:
						nones++
					default:
						bounds++
					}
				}
			}
		}
	}
	if bounds < 5000 || nones < 5000 || refused < 5000 {
		t.Errorf("%d claims prove a bound, %d that there is no point, and %d nothing", bounds, nones, refused)
	}
}

func TestLeavesAtLimits(t *testing.T) {
	const m, g = impl.MaxEntry, impl.MaxGoal
	p := problem(ints(3, 2), ints(4, 4), row(2, 5, 2, 1))
	dear := problem(ints(99, 99, 99, 99, 99), ints(9, 9, 9, 9, 9), row(2, 99, 1, 1, 1, 1, 1), row(2, 45, 1, 1, 1, 1, 1))
	empty, nearly := problem(ints(1), ints(3), row(2, 7, 2)), problem(ints(1), ints(3), row(2, 6, 2))
	twelve := func(weights ...int) []int { return append(weights, make([]int, 12-len(weights))...) }
	for _, c := range []struct {
		p    impl.Problem
		c    impl.Claim
		goal int
		want bool
	}{
		// The sum of the bounds is exactly at the goal, or one off it.
		{p, bound(2, 3, 0, 0, 0, 0), 8, true}, {p, bound(2, 3, 0, 0, 0, 0), 9, false}, {p, bound(1, 1, 0, 0, 0, 0), 5, true}, {p, bound(1, 1, 0, 0, 0, 0), 6, false}, {p, bound(5, 1, 0, 0, 0, 0), 1, true}, {p, bound(5, 1, 0, 0, 0, 0), 2, false}, {p, bound(4, 1, 0, 0, 0, 0), 2, true},
		{p, bound(1, 0, 0, 0, 0, 0), 0, true}, {p, bound(1, 0, 0, 0, 0, 0), 1, false}, {p, bound(m, 0, 0, 0, 0, 0), 0, true}, {p, bound(4, 0, 1, 0, 0, 0), 0, false}, {p, bound(5, 0, 1, 0, 0, 0), 0, true}, {p, bound(8, 0, 1, 1, 0, 0), 0, false},
		// The sum of the coefficients is exactly at the cost, or one off it.
		{p, bound(1, 1, 0, 0, 0, 1), 5, true}, {p, bound(1, 1, 0, 0, 0, 2), 5, false}, {p, bound(1, 1, 0, 0, 1, 0), 5, true}, {p, bound(1, 1, 0, 0, 2, 0), 5, false}, {p, bound(1, 2, 0, 0, 0, 0), 0, false}, {p, bound(1, 2, 1, 0, 0, 0), 6, true}, {p, bound(1, 2, 1, 0, 0, 0), 7, false}, {p, bound(2, 3, 0, 0, 1, 0), 8, false}, {p, bound(2, 3, 0, 0, 0, 1), 8, true}, {p, bound(2, 3, 0, 0, 0, 2), 8, false},
		// Weights and Den at MaxEntry, and one more.
		{p, bound(m, m, 0, 0, 0, 0), 5, true}, {p, bound(m, m, 0, 0, 0, 0), 6, false}, {p, bound(m, m, 0, 0, m, m), 5, true}, {p, bound(m-1, m, 0, 0, 0, 0), 6, true}, {p, bound(m+1, m, 0, 0, 0, 0), 5, false}, {p, bound(m+1, m, 0, 0, 0, 0), 0, false}, {p, bound(m, m+1, 0, 0, 0, 0), 5, false}, {p, bound(m, m+1, 0, 0, 0, 0), 0, false}, {p, bound(m, m, 0, 0, 0, m+1), 0, false}, {p, bound(m, m, m, m, m, m), 0, false},
		{dear, bound(m, slices.Repeat(ints(m), 12)...), 99, true}, {dear, bound(m, slices.Repeat(ints(m), 12)...), 100, false}, {dear, bound(m, twelve(0, m)...), 45, true}, {dear, bound(m, twelve(0, m)...), 46, false}, {dear, bound(1, twelve(99)...), 9801, true}, {dear, bound(1, twelve(99)...), 9802, false}, {dear, bound(1, twelve(100)...), 0, false},
		{dear, bound(1, twelve(108, 0, 9, 9, 9, 9, 9)...), g, true}, {dear, none(twelve(m, 0, m, m, m, m, m)...), g, true}, {dear, none(twelve(0, m, m, m, m, m, m)...), 0, false},
		// Without a point, every goal is proved.
		{empty, none(1, 2, 0), 0, true}, {empty, none(1, 2, 0), g, true}, {empty, none(m/2, m, 0), g, true}, {empty, none(m/2, m, 1), g, false}, {empty, none(m/2+1, m, 0), g, false}, {empty, none(m/2, m+1, 0), g, false}, {empty, none(2, 5, 0), g, false}, {empty, none(3, 6, 0), g, true}, {empty, none(3, 7, 0), g, false}, {nearly, none(1, 2, 0), g, false}, {nearly, none(1, 2, 0), 0, false}, {empty, none(0, 0, 0), 0, false},
		{empty, bound(1, g, 2*g, 0), g, true}, {empty, bound(1, g-1, 2*g-2, 0), g, false}, {empty, bound(1, g-1, 2*g-2, 0), g - 1, true}, {empty, bound(2, 1, 2, 0), 1, true}, {empty, bound(1, 2, 3, 0), 6, false}, {empty, bound(1, 2, 3, 0), 5, true},
		// A Den, a Var, an At or a kind that is wrong.
		{empty, impl.Claim{Kind: impl.ClaimNone, Weights: ints(1, 2, 0), Den: 1}, g, false}, {empty, impl.Claim{Kind: impl.ClaimNone, Weights: ints(1, 2, 0), Den: -1}, 0, false}, {empty, bound(0, 1, 2, 0), g, false}, {p, bound(0, 0, 0, 0, 0, 0), 0, false}, {p, bound(-1, 0, 0, 0, 0, 0), 0, false}, {p, bound(leastInt, 0, 0, 0, 0, 0), 0, false}, {p, bound(greatestInt, 0, 0, 0, 0, 0), 0, false},
		{empty, impl.Claim{Kind: impl.ClaimNone, Var: 1, Weights: ints(1, 2, 0)}, 0, false}, {empty, impl.Claim{Kind: impl.ClaimNone, At: 1, Weights: ints(1, 2, 0)}, 0, false}, {p, impl.Claim{Kind: impl.ClaimBound, Var: 1, Weights: ints(1, 0, 0, 0, 0), Den: 1}, 5, false}, {p, impl.Claim{Kind: impl.ClaimBound, At: -1, Weights: ints(1, 0, 0, 0, 0), Den: 1}, 5, false},
		{p, impl.Claim{Kind: impl.ClaimSplit, Weights: ints(1, 0, 0, 0, 0), Den: 1}, 5, false}, {empty, impl.Claim{Kind: impl.ClaimSplit, Weights: ints(1, 2, 0)}, 5, false}, {p, impl.Claim{Kind: 4, Weights: ints(1, 0, 0, 0, 0), Den: 1}, 5, false}, {empty, impl.Claim{Weights: ints(1, 2, 0)}, 5, false}, {p, impl.Claim{}, 0, false},
		// One weight for each row, none of them negative.
		{p, bound(1, 1, 0, 0, 0), 5, false}, {p, bound(1, 1, 0, 0, 0, 0, 0), 5, false}, {p, bound(1), 0, false}, {empty, none(1, 2), 5, false}, {empty, none(1, 2, 0, 0), 5, false}, {p, bound(1, 1, 0, 0, 0, -1), 5, false}, {p, bound(1, 1, 0, -1, 0, 0), 5, false}, {empty, none(1, 2, -1), 5, false}, {p, bound(1, greatestInt, 0, 0, 0, 0), 5, false}, {p, bound(1, leastInt, 0, 0, 0, 0), 5, false},
		// Goals that are none.
		{p, bound(1, 1, 0, 0, 0, 0), -1, false}, {p, bound(1, 1, 0, 0, 0, 0), leastInt, false}, {empty, none(1, 2, 0), -1, false}, {empty, none(1, 2, 0), g + 1, false}, {empty, none(1, 2, 0), greatestInt, false}, {empty, bound(1, 2*g, 4*g, 0), g + 1, false}, {empty, bound(1, 2*g, 4*g, 0), g, true},
	} {
		if got := impl.CheckLeaf(c.p, wholeBox(c.p), c.c, c.goal); got != c.want {
			t.Errorf("CheckLeaf(%v, %v, %d) = %t", c.p, c.c, c.goal, got)
		}
	}
}

// TestLeavesOfSmallerBoxes shows that the bounds of the box count.
func TestLeavesOfSmallerBoxes(t *testing.T) {
	p := problem(ints(3, 2), ints(4, 4), row(2, 5, 2, 1))
	for _, c := range []struct {
		b    impl.Box
		c    impl.Claim
		goal int
		want bool
	}{
		{box(ints(0, 0), ints(1, 2)), none(1, 2, 1, 0, 0), 99, true}, {box(ints(0, 0), ints(1, 3)), none(1, 2, 1, 0, 0), 99, false}, {box(ints(0, 0), ints(2, 2)), none(1, 2, 1, 0, 0), 99, false}, {box(ints(3, 1), ints(4, 4)), bound(1, 0, 0, 0, 3, 2), 11, true}, {box(ints(3, 1), ints(4, 4)), bound(1, 0, 0, 0, 3, 2), 12, false}, {box(ints(2, 1), ints(4, 4)), bound(1, 0, 0, 0, 3, 2), 9, false}, {box(ints(4, 4), ints(4, 4)), bound(1, 0, 0, 0, 3, 2), 20, true},
		{box(ints(0, 0), ints(1, 4)), bound(1, 2, 1, 0, 0, 0), 9, true}, {box(ints(0, 0), ints(1, 4)), bound(1, 2, 1, 0, 0, 0), 10, false}, {box(ints(0, 0), ints(2, 4)), bound(1, 2, 1, 0, 0, 0), 8, true}, {box(ints(0, 0), ints(2, 4)), bound(1, 2, 1, 0, 0, 0), 9, false},
	} {
		if got := impl.CheckLeaf(p, c.b, c.c, c.goal); got != c.want {
			t.Errorf("CheckLeaf(%v, %v, %d) = %t", c.b, c.c, c.goal, got)
		}
	}
}

func TestProofBoxes(t *testing.T) {
	r := numbers()
	right, wrong, several := 0, 0, 0
	for _, p := range append(proofProblems(), relaxProblems()[:40]...) {
		for _, list := range proofsFor(r, p) {
			want := wantLeaves(p, list)
			if got := impl.ProofBoxes(p, list); !slices.EqualFunc(got, want, sameBox) {
				t.Errorf("ProofBoxes(%v, %v) = %v, want %v", p, list, got, want)
			}
			switch {
			case len(want) > 2:
				several++
			case len(want) > 0:
				right++
			default:
				wrong++
			}
		}
	}
	if right < 5000 || wrong < 5000 || several < 5000 {
		t.Errorf("%d lists have one or two leaves, %d have more, and %d are no proofs", right, several, wrong)
	}
}

func TestProofBoxesAtLimits(t *testing.T) {
	p := problem(ints(3, 2), ints(4, 4), row(2, 5, 2, 1))
	leaf, all := none(), wholeBox(p)
	withWeights, withDen := split(0, 1), split(0, 1)
	withWeights.Weights, withDen.Den = ints(0), 1
	for _, c := range []struct {
		list []impl.Claim
		want []impl.Box
	}{
		{claims(leaf), boxes(all)}, {claims(impl.Claim{}), boxes(all)}, {claims(impl.Claim{Kind: 7, Var: 9, At: -9, Weights: ints(1, 2), Den: -3}), boxes(all)}, {claims(split(0, 1), leaf, leaf), boxes(box(ints(0, 0), ints(1, 4)), box(ints(2, 0), ints(4, 4)))}, {claims(split(1, 1), leaf, leaf), boxes(box(ints(0, 0), ints(4, 1)), box(ints(0, 2), ints(4, 4)))},
		// At Low, at High minus 1, and outside the box.
		{claims(split(0, 0), leaf, leaf), boxes(box(ints(0, 0), ints(0, 4)), box(ints(1, 0), ints(4, 4)))}, {claims(split(0, 3), leaf, leaf), boxes(box(ints(0, 0), ints(3, 4)), box(ints(4, 0), ints(4, 4)))}, {claims(split(0, 4), leaf, leaf), nil}, {claims(split(0, -1), leaf, leaf), nil}, {claims(split(0, 5), leaf, leaf), nil}, {claims(split(0, greatestInt), leaf, leaf), nil}, {claims(split(0, leastInt), leaf, leaf), nil}, {claims(split(2, 1), leaf, leaf), nil}, {claims(split(-1, 1), leaf, leaf), nil}, {claims(split(greatestInt, 1), leaf, leaf), nil}, {claims(split(leastInt, 1), leaf, leaf), nil},
		// Splits of a part see the split before them.
		{claims(split(0, 1), split(0, 0), leaf, leaf, split(0, 3), leaf, leaf), boxes(box(ints(0, 0), ints(0, 4)), box(ints(1, 0), ints(1, 4)), box(ints(2, 0), ints(3, 4)), box(ints(4, 0), ints(4, 4)))}, {claims(split(0, 1), split(0, 1), leaf, leaf, leaf), nil}, {claims(split(0, 1), leaf, split(0, 1), leaf, leaf), nil}, {claims(split(0, 1), leaf, split(0, 2), leaf, leaf), boxes(box(ints(0, 0), ints(1, 4)), box(ints(2, 0), ints(2, 4)), box(ints(3, 0), ints(4, 4)))}, {claims(split(0, 1), split(0, 2), leaf, leaf, leaf), nil},
		{claims(split(0, 0), split(0, 0), leaf, leaf, leaf), nil}, {claims(split(0, 1), split(1, 2), leaf, leaf, leaf), boxes(box(ints(0, 0), ints(1, 2)), box(ints(0, 3), ints(1, 4)), box(ints(2, 0), ints(4, 4)))}, {claims(split(0, 1), leaf, split(1, 2), leaf, leaf), boxes(box(ints(0, 0), ints(1, 4)), box(ints(2, 0), ints(4, 2)), box(ints(2, 3), ints(4, 4)))},
		// Claims that are missing or left over, and splits with weights or a Den.
		{nil, nil}, {claims(split(0, 1)), nil}, {claims(split(0, 1), leaf), nil}, {claims(split(0, 1), leaf, leaf, leaf), nil}, {claims(leaf, leaf), nil}, {claims(leaf, split(0, 1), leaf, leaf), nil}, {claims(split(0, 1), leaf, leaf, split(0, 1), leaf, leaf), nil}, {claims(split(0, 1), split(1, 1), leaf, leaf), nil}, {claims(split(0, 1), leaf, split(1, 1), leaf), nil}, {claims(withWeights, leaf, leaf), nil}, {claims(withDen, leaf, leaf), nil}, {claims(split(1, 1), withWeights, leaf, leaf, leaf), nil}, {claims(split(1, 1), leaf, withDen, leaf, leaf), nil},
	} {
		if got := impl.ProofBoxes(p, c.list); !slices.EqualFunc(got, c.want, sameBox) {
			t.Errorf("ProofBoxes(%v) = %v, want %v", c.list, got, c.want)
		}
	}
	if got := impl.ProofBoxes(problem(ints(1), ints(0)), claims(split(0, 0), leaf, leaf)); len(got) > 0 {
		t.Errorf("ProofBoxes = %v for a split of one point", got)
	}
	large := problem(ints(1, 1, 1, 1, 1), ints(9, 9, 9, 9, 9))
	for splits := range 60 {
		list := fullProof(wholeBox(large), splits)
		want := splits + 1
		if 2*splits+1 > impl.MaxClaims {
			want = 0
		}
		if got := impl.ProofBoxes(large, list); len(list) != 2*splits+1 || len(got) != want || !slices.EqualFunc(got, wantLeaves(large, list), sameBox) {
			t.Errorf("ProofBoxes has %d boxes for %d claims", len(got), len(list))
		}
	}
}

// proofLists returns lists of claims for a problem and a goal that prove it or nearly do.
func proofLists(r *rand.Rand, p impl.Problem, goal int) [][]impl.Claim {
	zero := make([]int, len(wantProofRows(p, wholeBox(p))))
	list := [][]impl.Claim{nil, claims(bound(1, zero...)), claims(none(zero...)), randomProof(r, wholeBox(p), 3)}
	made, ok := wantMade(p, wholeBox(p), goal, impl.MaxClaims)
	if !ok {
		return list
	}
	list = append(list, made, append(slices.Clone(made), made[len(made)-1]), made[:len(made)-1])
	for at, c := range made {
		for _, other := range leavesFor(p, wholeBox(p), goal)[:7] {
			list = append(list, changedClaim(made, at, func(c *impl.Claim) { *c = other }))
		}
		list = append(list, changedClaim(made, at, func(c *impl.Claim) { c.At++ }), changedClaim(made, at, func(c *impl.Claim) { c.Den++ }), changedClaim(made, at, func(c *impl.Claim) { c.Kind = 5 - c.Kind }))
		for range len(c.Weights) / 3 {
			i := r.Intn(len(c.Weights))
			list = append(list, changedClaim(made, at, func(c *impl.Claim) { c.Weights[i]++ }), changedClaim(made, at, func(c *impl.Claim) { c.Weights[i]-- }))
		}
		if c.Kind == impl.ClaimSplit {
			continue
		}
		// A leaf that stands there twice.
		if double := slices.Concat(made[:at], claims(c, c), made[at+1:]); len(double) < 12 {
			list = append(list, double)
		}
	}
	return list
}

func TestCheckProof(t *testing.T) {
	r := numbers()
	accepted, deep, refused := 0, 0, 0
	for k, p := range proofProblems() {
		for i, goal := range goalsOf(p) {
			if (k+i)%2 == 0 {
				continue
			}
			for _, list := range proofLists(r, p, goal) {
				for _, g := range []int{goal, goal + 1, 0, -1} {
					want := wantProved(p, list, g)
					if got := impl.CheckProof(p, list, g); got != want {
						t.Errorf("CheckProof(%v, %v, %d) = %t", p, list, g, got)
					}
					switch {
					case !want:
						refused++
					case len(list) > 1:
						deep++
					default:
						accepted++
					}
				}
			}
		}
	}
	if accepted < 3000 || deep < 1500 || refused < 3000 {
		t.Errorf("%d proofs of one claim are accepted, %d of several, and %d are not", accepted, deep, refused)
	}
}

func TestProofsAtTheirGoals(t *testing.T) {
	p := problem(ints(3, 2), ints(4, 4), row(2, 5, 2, 1))
	parts := claims(split(0, 1), bound(1, 2, 1, 0, 0, 0), bound(1, 1, 0, 0, 1, 1))
	closer := claims(split(0, 2), bound(1, 2, 1, 0, 0, 0), bound(1, 0, 0, 0, 3, 2))
	for _, c := range []struct {
		list []impl.Claim
		goal int
		want bool
	}{
		{claims(bound(2, 3, 0, 0, 0, 0)), 8, true}, {claims(bound(2, 3, 0, 0, 0, 0)), 9, false}, {claims(bound(2, 3, 0, 0, 0, 0)), 0, true}, {claims(bound(2, 3, 0, 0, 0, 0)), -1, false}, {claims(bound(2, 3, 0, 0, 0, 0)), leastInt, false}, {nil, 0, false}, {claims(bound(1, 0, 0, 0, 0, 0)), 0, true}, {claims(bound(1, 0, 0, 0, 0, 0)), 1, false},
		// Both leaves are proved, each with its own box.
		{parts, 7, true}, {parts, 8, false}, {closer, 8, true}, {closer, 9, false}, {claims(closer[0], closer[2], closer[1]), 8, false}, {claims(closer[0], closer[2], closer[1]), 0, true}, {closer[1:], 8, false}, {closer[:2], 0, false}, {append(slices.Clone(closer), closer[2]), 0, false}, {claims(split(0, 4), closer[1], closer[2]), 0, false},
		// A claim that proves more elsewhere, and leaves that are none.
		{claims(closer[0], closer[1], bound(1, 0, 0, 0, 3, 3)), 8, false}, {claims(closer[0], closer[1], none(0, 0, 0, 0, 0)), 0, false}, {claims(closer[0], impl.Claim{}, closer[2]), 0, false}, {claims(impl.Claim{Kind: 4}), 0, false},
	} {
		if got := impl.CheckProof(p, c.list, c.goal); got != c.want {
			t.Errorf("CheckProof(%v, %d) = %t", c.list, c.goal, got)
		}
	}
	empty := problem(ints(1), ints(3), row(2, 7, 2))
	for _, goal := range wrongGoals() {
		if impl.CheckProof(empty, claims(none(1, 2, 0)), goal) || impl.CheckProof(p, claims(bound(1, 0, 0, 0, 0, 0)), goal) {
			t.Errorf("CheckProof accepts the goal %d", goal)
		}
	}
	if !impl.CheckProof(empty, claims(none(1, 2, 0)), impl.MaxGoal) {
		t.Error("CheckProof does not accept MaxGoal")
	}
}

func TestMakeProof(t *testing.T) {
	leaf, deep, integer := 0, 0, 0
	for _, p := range append(proofProblems(), relaxProblems()...) {
		goals := ints(0, 3, 100, impl.MaxGoal)
		if len(pointsOf(p)) <= 4000 {
			goals = goalsOf(p)
		}
		for _, goal := range goals {
			want, ok := wantMade(p, wholeBox(p), goal, impl.MaxClaims)
			if !ok {
				want = nil
			}
			if got, gotOk := impl.MakeProof(p, goal); gotOk != ok || !slices.EqualFunc(got, want, sameClaim) {
				t.Errorf("MakeProof(%v, %d) = %v, %t, want %v, %t", p, goal, got, gotOk, want, ok)
			}
			switch len(want) {
			case 0:
				integer++
			case 1:
				leaf++
			default:
				deep++
			}
		}
	}
	if leaf < 500 || deep < 200 || integer < 300 {
		t.Errorf("%d proofs have one claim, %d have several, and %d fail", leaf, deep, integer)
	}
}

func TestProofsThatAreMade(t *testing.T) {
	p := problem(ints(3, 2), ints(4, 4), row(2, 5, 2, 1))
	odd := problem(ints(1), ints(9), row(3, 9, 2))
	empty := problem(ints(1), ints(3), row(2, 7, 2))
	free := problem(ints(7, 9), ints(9, 9))
	lots := problem(ints(10, 7), ints(9, 9), row(2, 17, 3, 2))
	for _, c := range []struct {
		p    impl.Problem
		goal int
		want []impl.Claim
	}{
		{p, 0, claims(bound(2, 3, 0, 0, 0, 0))}, {p, 8, claims(bound(2, 3, 0, 0, 0, 0))}, {p, 9, nil}, {p, impl.MaxGoal, nil}, {odd, 0, claims(bound(2, 1, 0, 0, 0))}, {odd, 5, claims(bound(2, 1, 0, 0, 0))}, {odd, 6, claims(split(0, 4), none(1, 0, 2, 0), none(0, 1, 0, 2))}, {odd, impl.MaxGoal, claims(split(0, 4), none(1, 0, 2, 0), none(0, 1, 0, 2))},
		{empty, 0, claims(none(1, 2, 0))}, {empty, impl.MaxGoal, claims(none(1, 2, 0))}, {problem(ints(0), ints(0), row(1, -1, 0)), 5, claims(none(1, 0, 0))},
		// Without rows the point of zeros is the cheapest one.
		{free, 0, claims(bound(1, 0, 0, 0, 0))}, {free, 1, nil}, {problem(ints(0), ints(0)), 0, claims(bound(1, 0, 0))}, {problem(ints(0), ints(0)), 1, nil},
		// The least cost is 57: one less, itself, and one more.
		{lots, 56, claims(bound(3, 10, 0, 0, 0, 0))}, {lots, 57, claims(bound(3, 10, 0, 0, 0, 0))}, {lots, 58, nil}, {p, -1, nil}, {empty, -1, nil}, {empty, impl.MaxGoal + 1, nil}, {odd, leastInt, nil}, {odd, greatestInt, nil},
	} {
		got, ok := impl.MakeProof(c.p, c.goal)
		if ok != (c.want != nil) || !slices.EqualFunc(got, c.want, sameClaim) {
			t.Errorf("MakeProof(%v, %d) = %v, %t, want %v", c.p, c.goal, got, ok, c.want)
		}
	}
}

func TestProofsWithTooManyClaims(t *testing.T) {
	for _, c := range deepProofs() {
		full, ok := wantMade(c.p, wholeBox(c.p), c.goal, 200)
		if !ok || len(full) != c.size {
			t.Errorf("the proof for %v has %d claims", c.p, len(full))
		}
		want, few := full, c.size <= impl.MaxClaims
		if !few {
			want = nil
		}
		if got, ok := impl.MakeProof(c.p, c.goal); ok != few || !slices.EqualFunc(got, want, sameClaim) {
			t.Errorf("MakeProof(%v, %d) has %d claims, %t", c.p, c.goal, len(got), ok)
		}
		if got := impl.CheckProof(c.p, full, c.goal); got != few {
			t.Errorf("CheckProof of %d claims is %t", len(full), got)
		}
		if got := len(impl.ProofBoxes(c.p, full)); got > 0 != few {
			t.Errorf("ProofBoxes of %d claims has %d boxes", len(full), got)
		}
	}
}

// TestNumbersOfProofsThatAreTooLarge shows that a proof can fail for a goal that nothing is cheaper than.
func TestNumbersOfProofsThatAreTooLarge(t *testing.T) {
	for _, p := range wideProblems() {
		if _, code := pathFrom(wantDict(p.Costs, wantProofRows(p, wholeBox(p)))); code != impl.StepWide {
			t.Errorf("%v has the code %d", p, code)
		}
		for _, goal := range []int{0, 1, 50, impl.MaxGoal} {
			if got, ok := impl.MakeProof(p, goal); ok || len(got) > 0 {
				t.Errorf("MakeProof(%v, %d) = %v, %t", p, goal, got, ok)
			}
		}
		if !impl.CheckProof(p, claims(bound(1, make([]int, len(p.Rows)+10)...)), 0) {
			t.Errorf("CheckProof(%v) does not accept the goal 0", p)
		}
	}
}

func TestProofsWithInvalidArguments(t *testing.T) {
	leaf := func(p impl.Problem, b impl.Box) {
		if got := impl.ProofRows(p, b); len(got) > 0 {
			t.Errorf("ProofRows(%v, %v) = %v", p, b, got)
		}
		for n := range 23 {
			for _, c := range claims(bound(1, make([]int, n)...), none(slices.Repeat(ints(1), n)...)) {
				if impl.CheckLeaf(p, b, c, 0) {
					t.Errorf("CheckLeaf(%v, %v, %v) = true", p, b, c)
				}
			}
		}
	}
	for _, p := range proofProblems()[:120] {
		for _, b := range invalidBoxes(p) {
			leaf(p, b)
		}
		for _, goal := range wrongGoals() {
			if got, ok := impl.MakeProof(p, goal); ok || len(got) > 0 {
				t.Errorf("MakeProof(%v, %d) = %v, %t", p, goal, got, ok)
			}
			for _, c := range leavesFor(p, wholeBox(p), 0) {
				if impl.CheckLeaf(p, wholeBox(p), c, goal) || impl.CheckProof(p, claims(c), goal) {
					t.Errorf("CheckLeaf(%v, %v, %d) = true", p, c, goal)
				}
			}
		}
	}
	for _, p := range invalidProblems() {
		for n := range impl.MaxVars + 2 {
			leaf(p, box(make([]int, n), make([]int, n)))
		}
		leaf(p, wholeBox(p))
		for _, list := range [][]impl.Claim{nil, claims(none()), claims(bound(1, make([]int, 2*len(p.Costs)+len(p.Rows))...)), claims(split(0, 0), none(), none())} {
			if got := impl.ProofBoxes(p, list); len(got) > 0 {
				t.Errorf("ProofBoxes(%v, %v) = %v", p, list, got)
			}
			if impl.CheckProof(p, list, 0) {
				t.Errorf("CheckProof(%v, %v) = true", p, list)
			}
		}
		for _, goal := range []int{0, 1, impl.MaxGoal, -1} {
			if got, ok := impl.MakeProof(p, goal); ok || len(got) > 0 {
				t.Errorf("MakeProof(%v, %d) = %v, %t", p, goal, got, ok)
			}
		}
	}
}

func TestP161ProofRowsDescribeABox(t *testing.T) {
	inside, outside := 0, 0
	for _, p := range proofProblems() {
		for _, b := range validBoxes(p) {
			rows := impl.ProofRows(p, b)
			for _, x := range slices.Concat(somePoints(p), [][]int{b.Low, b.High}) {
				all := true
				for _, r := range rows {
					all = all && impl.RowHolds(r, x)
				}
				if all != (impl.Feasible(p, x) && inBox(b, x)) {
					t.Errorf("ProofRows(%v, %v) = %v, which %v satisfies: %t", p, b, rows, x, all)
				}
				if all {
					inside++
				} else {
					outside++
				}
			}
		}
	}
	if inside < 5000 || outside < 5000 {
		t.Errorf("%d points are in their box, and %d are not", inside, outside)
	}
}

func TestP162LeavesProveWhatTheySay(t *testing.T) {
	tight, empty := 0, 0
	for k, p := range proofProblems() {
		feasible := feasiblePoints(p)
		goals := goalsOf(p)
		for i, b := range validBoxes(p) {
			least := -1
			for _, x := range feasible {
				if inBox(b, x) && (least < 0 || dot(p.Costs, x) < least) {
					least = dot(p.Costs, x)
				}
			}
			if x, cost, valid := cheapestIn(p, b); valid && cost != least {
				t.Errorf("the cheapest point of %v in %v is %v with the cost %d, not %d", p, b, x, cost, least)
			}
			goal := goals[(k+i)%len(goals)]
			if i%2 == 0 && least >= 0 {
				goal = least
			}
			for _, c := range leavesFor(p, b, goal) {
				if !impl.CheckLeaf(p, b, c, goal) {
					continue
				}
				switch {
				case least < 0:
					empty++
				case least < goal:
					t.Errorf("CheckLeaf(%v, %v, %v, %d) = true, but a point costs %d", p, b, c, goal, least)
				case least == goal:
					tight++
				}
				for _, less := range []int{goal - 1, goal / 2, 0} {
					if less >= 0 && !impl.CheckLeaf(p, b, c, less) {
						t.Errorf("CheckLeaf(%v, %v, %v, %d) = false, but it is true for %d", p, b, c, less, goal)
					}
				}
			}
		}
	}
	if tight < 1000 || empty < 1000 {
		t.Errorf("%d leaves prove the least cost, and %d that there is no point", tight, empty)
	}
}

func TestP163TheBoxesOfAProofDivideAllPoints(t *testing.T) {
	r := numbers()
	divided := 0
	for _, p := range append(proofProblems(), relaxProblems()[:30]...) {
		x, cost := impl.SolveExact(p)
		all := 1
		for _, u := range p.Uppers {
			all *= u + 1
		}
		for _, list := range proofsFor(r, p) {
			sum, with := 0, 0
			leaves := impl.ProofBoxes(p, list)
			for _, b := range leaves {
				points := 1
				for v, low := range b.Low {
					points *= b.High[v] - low + 1
				}
				sum += points
				if cost >= 0 && inBox(b, x) {
					with++
				}
			}
			if len(leaves) > 0 && (sum != all || cost >= 0 && with != 1) {
				t.Errorf("ProofBoxes(%v, %v) = %v with %d points, and with the cheapest one %d times", p, list, leaves, sum, with)
			}
			if len(leaves) > 1 && cost >= 0 {
				divided++
			}
		}
	}
	if divided < 3000 {
		t.Errorf("only %d proofs divide a box", divided)
	}
}

// forProofs calls a function for lists of claims, and for goals for which they could be proofs.
func forProofs(call func(p impl.Problem, list []impl.Claim, goal int)) {
	r := numbers()
	for k, p := range proofProblems() {
		for i, goal := range goalsOf(p) {
			if (k+i)%3 == 0 {
				for _, list := range proofLists(r, p, goal) {
					call(p, list, goal)
				}
			}
		}
	}
}

func TestP164ProofsAreTrue(t *testing.T) {
	reached, without := 0, 0
	forProofs(func(p impl.Problem, list []impl.Claim, goal int) {
		for _, g := range []int{goal, goal + 1, goal + 2} {
			if !impl.CheckProof(p, list, g) {
				continue
			}
			_, least := impl.SolveExact(p)
			switch {
			case least < 0:
				without++
			case least < g:
				t.Errorf("CheckProof(%v, %v, %d) = true, but a point costs %d", p, list, g, least)
			case least == g && len(list) > 1:
				reached++
			}
		}
	})
	if reached < 200 || without < 1000 {
		t.Errorf("%d proofs with splits reach the least cost, and %d show that there is no point", reached, without)
	}
}

func TestP165ProofsHoldForLess(t *testing.T) {
	forProofs(func(p impl.Problem, list []impl.Claim, goal int) {
		if !impl.CheckProof(p, list, goal) {
			return
		}
		for _, less := range []int{goal - 1, goal - 2, goal / 2, 1, 0} {
			if less >= 0 && less < goal && !impl.CheckProof(p, list, less) {
				t.Errorf("CheckProof(%v, %v, %d) = false, but it is true for %d", p, list, less, goal)
			}
		}
	})
}

func TestP166WhatIsClaimedIsChecked(t *testing.T) {
	made := 0
	for _, p := range append(proofProblems(), relaxProblems()...) {
		for _, goal := range []int{0, 1, 2, 5, 9, 17, 40, 150, 1000, impl.MaxGoal} {
			list, ok := impl.MakeProof(p, goal)
			if ok != impl.CheckProof(p, list, goal) {
				t.Errorf("MakeProof(%v, %d) = %v, %t, but CheckProof is the contrary", p, goal, list, ok)
			}
			if len(list) > 1 {
				made++
			}
		}
	}
	if made < 200 {
		t.Errorf("only %d proofs have several claims", made)
	}
}

func TestP167NobodyProvesTooMuch(t *testing.T) {
	most := 0
	for _, p := range append(proofProblems(), validProblems()...) {
		_, least := impl.SolveExact(p)
		if least < 0 {
			continue
		}
		for _, goal := range []int{least + 1, least + 2, 2*least + 1, impl.MaxGoal} {
			if list, ok := impl.MakeProof(p, goal); ok || len(list) > 0 {
				t.Errorf("MakeProof(%v, %d) = %v, %t, but a point costs %d", p, goal, list, ok, least)
			}
		}
		if _, ok := impl.MakeProof(p, least); ok {
			most++
		}
	}
	if most < 200 {
		t.Errorf("only %d least costs are proved", most)
	}
}

func TestP168EveryProofHasOneLeafMoreThanSplits(t *testing.T) {
	for _, p := range append(proofProblems(), relaxProblems()...) {
		for _, goal := range []int{0, 1, 7, 23, 80, 300, impl.MaxGoal} {
			list, ok := impl.MakeProof(p, goal)
			if n := len(impl.ProofBoxes(p, list)); ok && len(list) != 2*n-1 || !ok && n > 0 {
				t.Errorf("MakeProof(%v, %d) has %d claims, but %d leaves", p, goal, len(list), n)
			}
		}
	}
}

func TestProofsAreNotChangedAndNotShared(t *testing.T) {
	r := numbers()
	for k, p := range append(proofProblems(), invalidProblems()...) {
		arg := spareProblem(p)
		b := spareBox(wholeBox(p))
		goal := k % 40
		checkMemory(t, "a function of chapter 25", []any{arg, b}, func() []any {
			list, ok := impl.MakeProof(arg, goal)
			more, also := impl.MakeProof(arg, impl.MaxGoal)
			return []any{impl.ProofRows(arg, b), list, ok, more, also}
		})
		if !impl.ValidProblem(p) {
			continue
		}
		for _, list := range slices.Concat(proofsFor(r, p)[k%7:k%7+30], proofLists(r, p, goal)[:4]) {
			of := spareClaims(list)
			var c impl.Claim
			if len(of) > 0 {
				c = of[len(of)-1]
			}
			checkMemory(t, "a function of chapter 25", []any{arg, b, of}, func() []any {
				return []any{impl.ProofBoxes(arg, of), impl.CheckProof(arg, of, goal), impl.CheckLeaf(arg, b, c, goal)}
			})
		}
	}
}

// TestProofsDoNotKeepTheirBoxes changes the boxes of a proof, and then makes them again.
func TestProofsDoNotKeepTheirBoxes(t *testing.T) {
	r := numbers()
	for _, p := range parityProblems() {
		list := randomProof(r, wholeBox(p), 6)
		want := wantLeaves(p, list)
		for _, b := range impl.ProofBoxes(p, list) {
			overwrite(b.Low, mark)
			overwrite(b.High, mark)
		}
		if got := impl.ProofBoxes(p, list); !slices.EqualFunc(got, want, sameBox) {
			t.Errorf("ProofBoxes(%v, %v) = %v, want %v", p, list, got, want)
		}
	}
}
