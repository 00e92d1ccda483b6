package tests

import (
	"math/rand"
	"slices"
	"testing"

	"loop.example/integerplanner/impl"
)

// shift has duties and the rules for lines.
type shift struct {
	list       []impl.Duty
	rest, most int
}

// duties returns the duties of pairs of times.
func duties(times ...int) []impl.Duty {
	var list []impl.Duty
	for i := 0; i < len(times); i += 2 {
		list = append(list, impl.Duty{Start: times[i], End: times[i+1]})
	}
	return list
}

// spareDuties returns a copy of duties with marks in its spare capacity.
func spareDuties(list []impl.Duty) []impl.Duty {
	long := slices.Concat(list, duties(mark, mark, mark, mark))
	return long[:len(list)]
}

// lengths returns how long duties last.
func lengths(list []impl.Duty) []int {
	var all []int
	for _, d := range list {
		all = append(all, d.End-d.Start)
	}
	return all
}

// chain returns n duties of 5 with a gap between them.
func chain(n int, gap int) []impl.Duty {
	var list []impl.Duty
	for k := range n {
		list = append(list, impl.Duty{Start: k * (5 + gap), End: k*(5+gap) + 5})
	}
	return list
}

// edgeShifts returns shifts at the limits, without duties, and with duties at the same time.
func edgeShifts() []shift {
	all := slices.Repeat(duties(0, 200), 6)
	list := []shift{
		{nil, 200, 9999}, {all, 0, 9999}, {all, 200, 9999}, {all, 0, 200}, {all, 0, 199}, {all, 200, 0}, {duties(199, 200), 200, 1}, {duties(199, 200), 0, 0}, {duties(0, 1, 199, 200), 198, 2}, {duties(0, 1, 199, 200), 199, 2}, {duties(0, 1, 199, 200), 198, 1}, {duties(0, 1, 1, 2), 0, 2}, {duties(0, 1, 1, 2), 0, 1}, {duties(0, 2, 1, 3), 0, 9},
		{duties(0, 5, 4, 8, 6, 9, 9, 12), 1, 20}, {duties(0, 5, 4, 8, 6, 9, 9, 12), 1, 8}, {duties(0, 9, 1, 2, 3, 4, 5, 6, 7, 8, 9, 10), 0, 99}, {duties(0, 9, 1, 2, 3, 4, 5, 6, 7, 8, 9, 10), 1, 99}, {duties(0, 50, 0, 10, 10, 20, 20, 30, 30, 40, 40, 50), 0, 40}, {duties(0, 3, 0, 2, 0, 1, 1, 4, 2, 4, 3, 4), 0, 4},
	}
	for n := range impl.MaxDuties + 1 {
		list = append(list, shift{chain(n, 0), 0, 30}, shift{chain(n, 0), 1, 30}, shift{chain(n, 2), 2, 30}, shift{chain(n, 2), 3, 30}, shift{chain(n, 2), 0, 10}, shift{chain(n, 2), 0, 9}, shift{chain(n, 2), 0, 4}, shift{make([]impl.Duty, 0), n, n})
	}
	return list
}

// randomShift returns a shift with n duties, in a time that is as short as chance wants.
func randomShift(r *rand.Rand, n int) shift {
	end := []int{6, 15, 40, impl.MaxClock}[r.Intn(4)]
	longest := []int{2, 6, end}[r.Intn(3)]
	var list []impl.Duty
	for range n {
		start := r.Intn(end)
		list = append(list, impl.Duty{Start: start, End: start + 1 + r.Intn(min(longest, end-start))})
	}
	slices.SortStableFunc(list, func(a impl.Duty, b impl.Duty) int { return a.Start - b.Start })
	most := []int{longest + r.Intn(longest+1), 2*longest + r.Intn(longest+1), impl.MaxTime}[r.Intn(3)]
	return shift{list, r.Intn([]int{1, 3, end}[r.Intn(3)] + 1), most}
}

// validShifts returns shifts with all numbers of duties.
func validShifts() []shift {
	list := edgeShifts()
	r := numbers()
	for n := range 280 {
		list = append(list, randomShift(r, n%(impl.MaxDuties+1)))
	}
	return list
}

// invalidDuties returns duties with one fault each.
func invalidDuties() [][]impl.Duty {
	list := [][]impl.Duty{chain(impl.MaxDuties+1, 0), slices.Repeat(duties(0, 1), impl.MaxDuties+1), slices.Repeat(duties(0, 1), 1000), duties(1, 2, 0, 3), duties(1, 2, 0, 1), duties(0, 9, 5, 6, 4, 7), duties(2, 3, 0, 1, 4, 5), duties(199, 200, 198, 200)}
	for _, d := range []impl.Duty{
		{}, {Start: 3, End: 3}, {Start: 4, End: 3}, {Start: 200, End: 200}, {Start: 200, End: 199}, {Start: 0, End: 201}, {Start: 200, End: 201}, {Start: 3, End: 201}, {Start: -1, End: 1}, {Start: -1, End: 0}, {Start: -2, End: -1}, {Start: 1, End: -1},
		{Start: 1, End: greatestInt}, {Start: 1, End: leastInt}, {Start: greatestInt, End: greatestInt}, {Start: greatestInt, End: 5}, {Start: greatestInt, End: leastInt}, {Start: leastInt, End: 5}, {Start: leastInt, End: leastInt}, {Start: leastInt, End: greatestInt},
	} {
		list = append(list, []impl.Duty{d})
		for at := range 3 {
			wrong := duties(0, 5, 2, 6, 190, 200)
			wrong[at] = d
			list = append(list, wrong)
		}
	}
	return list
}

// invalidRules returns rules for lines with one fault each.
func invalidRules() []shift {
	var list []shift
	for _, duty := range [][]impl.Duty{nil, duties(0, 5), duties(0, 5, 6, 7)} {
		for _, v := range []int{-1, greatestInt, leastInt} {
			list = append(list, shift{duty, v, 20}, shift{duty, 0, v})
		}
		list = append(list, shift{duty, impl.MaxClock + 1, 20}, shift{duty, 0, impl.MaxTime + 1})
	}
	return list
}

// wrongCrews returns lists that are not one person for each of n duties.
func wrongCrews(n int) [][]int {
	list := [][]int{make([]int, n+1), make([]int, 1000)}
	if n > 0 {
		list = append(list, make([]int, n-1))
	}
	for at := range n {
		for _, v := range []int{-1, n, greatestInt, leastInt} {
			list = append(list, changed(make([]int, n), at, v))
		}
	}
	return list
}

// forCrews calls a function for each list of n numbers in 0..n-1, in lexicographic order.
func forCrews(n int, call func(crew []int)) {
	crew := make([]int, n)
	for {
		call(crew)
		at := n - 1
		for at >= 0 && crew[at] == n-1 {
			crew[at] = 0
			at--
		}
		if at < 0 {
			return
		}
		crew[at]++
	}
}

// wantLine returns what LineOk returns for a valid shift and numbers of duties that ascend: a calendar shows when the
// person works or rests.
func wantLine(c shift, line []int) bool {
	var busy [2*impl.MaxClock + 1]bool
	work := 0
	for _, k := range line {
		d := c.list[k]
		for time := d.Start; time < d.End+c.rest; time++ {
			if busy[time] {
				return false
			}
			busy[time] = true
		}
		work += d.End - d.Start
	}
	return work <= c.most
}

// possibleLines reports, for every set of duties of a valid shift, by the sum of 2^k over its duties k, whether it is a
// possible line.
func possibleLines(c shift) []bool {
	lines := make([]bool, power(2, len(c.list)))
	for _, line := range subsets(len(c.list)) {
		lines[sumOfMask(line)] = wantLine(c, line)
	}
	return lines
}

// masksOf returns, for every person in 0..n-1, the sum of 2^k over the duties k of the person.
func masksOf(crew []int) [impl.MaxDuties]int {
	var masks [impl.MaxDuties]int
	for k, person := range crew {
		masks[person] += 1 << k
	}
	return masks
}

// wantRoster returns what RosterOk returns for the possible lines of a valid shift and a person for each duty.
func wantRoster(lines []bool, crew []int) bool {
	for _, mask := range masksOf(crew) {
		if !lines[mask] {
			return false
		}
	}
	return true
}

// countPersons returns how many persons have a duty.
func countPersons(crew []int) int {
	count := 0
	for _, mask := range masksOf(crew) {
		if mask > 0 {
			count++
		}
	}
	return count
}

// wantLeastCrew returns what LeastCrew returns for a valid shift.
func wantLeastCrew(c shift) ([]int, int) {
	var best []int
	least := -1
	lines := possibleLines(c)
	forCrews(len(c.list), func(crew []int) {
		if count := countPersons(crew); wantRoster(lines, crew) && (least < 0 || count < least) {
			best, least = slices.Clone(crew), count
		}
	})
	return best, least
}

// wantBound returns what CrewBound returns for a valid shift: the size of the largest set without two duties that one
// person can do.
func wantBound(c shift) int {
	free := shift{c.list, c.rest, impl.MaxTime}
	most := 0
	for _, set := range subsets(len(c.list)) {
		together := true
		for i := range set {
			for _, k := range set[:i] {
				together = together && !wantLine(free, ints(k, set[i]))
			}
		}
		if together {
			most = max(most, len(set))
		}
	}
	return most
}

func TestLimitsOfRosters(t *testing.T) {
	if impl.MaxDuties != 6 {
		t.Error("the limit is wrong")
	}
}

func TestLineOk(t *testing.T) {
	possible, not := 0, 0
	for _, c := range validShifts() {
		for _, line := range subsets(len(c.list)) {
			want := wantLine(c, line)
			if got := impl.LineOk(c.list, c.rest, c.most, line); got != want {
				t.Errorf("LineOk(%v, %v) = %t", c, line, got)
			}
			if want {
				possible++
			} else {
				not++
			}
		}
	}
	if possible < 1000 || not < 1000 {
		t.Errorf("%d lines are possible, and %d are not", possible, not)
	}
}

func TestLines(t *testing.T) {
	four := duties(0, 5, 4, 8, 6, 9, 9, 12)
	for _, c := range []struct {
		of   shift
		line []int
		want bool
	}{
		// Nobody needs to work, and one duty needs no rest.
		{shift{nil, 0, 0}, nil, true}, {shift{nil, 200, 9999}, ints(), true}, {shift{nil, 0, 0}, ints(0), false}, {shift{four, 0, 0}, nil, true}, {shift{four, 200, 5}, ints(0), true}, {shift{four, 200, 3}, ints(3), true},
		// A duty begins exactly rest after the end of the one before it, and one earlier.
		{shift{four, 1, 20}, ints(0, 2), true}, {shift{four, 2, 20}, ints(0, 2), false}, {shift{four, 0, 20}, ints(0, 1), false}, {shift{four, 0, 20}, ints(2, 3), true}, {shift{four, 1, 20}, ints(2, 3), false}, {shift{four, 1, 20}, ints(1, 3), true}, {shift{four, 2, 20}, ints(1, 3), false}, {shift{four, 4, 20}, ints(0, 3), true}, {shift{four, 5, 20}, ints(0, 3), false}, {shift{four, 0, 20}, ints(0, 2, 3), true}, {shift{four, 1, 20}, ints(0, 2, 3), false}, {shift{four, 0, 20}, ints(0, 1, 3), false}, {shift{four, 0, 20}, ints(0, 1, 2, 3), false},
		{shift{duties(0, 1, 199, 200), 198, 2}, ints(0, 1), true}, {shift{duties(0, 1, 199, 200), 199, 2}, ints(0, 1), false}, {shift{duties(0, 1, 199, 200), 200, 2}, ints(0, 1), false}, {shift{duties(0, 9, 3, 4), 0, 20}, ints(0, 1), false}, {shift{duties(0, 9, 3, 4, 9, 10), 0, 20}, ints(0, 2), true}, {shift{duties(3, 4, 3, 4), 0, 20}, ints(0, 1), false},
		// Work is exactly at most, and one more.
		{shift{four, 1, 8}, ints(0, 2), true}, {shift{four, 1, 7}, ints(0, 2), false}, {shift{four, 0, 11}, ints(0, 2, 3), true}, {shift{four, 0, 10}, ints(0, 2, 3), false}, {shift{four, 0, 5}, ints(0), true}, {shift{four, 0, 4}, ints(0), false}, {shift{duties(0, 200), 0, 200}, ints(0), true}, {shift{duties(0, 200), 0, 199}, ints(0), false},
		{shift{four, 0, 20}, ints(2, 0), false}, {shift{four, 0, 20}, ints(0, 0), false}, {shift{four, 0, 20}, ints(4), false}, {shift{four, 0, 20}, ints(0, 4), false}, {shift{four, 0, 20}, ints(-1), false}, {shift{four, 0, 20}, ints(-1, 0), false},
		// The limits, and one more.
		{shift{chain(6, 0), 0, 30}, ints(0, 1, 2, 3, 4, 5), true}, {shift{chain(7, 0), 0, 30}, ints(0, 1, 2, 3, 4, 5), false}, {shift{chain(7, 0), 0, 30}, nil, false}, {shift{four, 201, 20}, ints(0), false}, {shift{four, -1, 20}, ints(0), false}, {shift{four, 0, 9999}, ints(0), true}, {shift{four, 0, 10000}, ints(0), false}, {shift{four, 0, -1}, nil, false}, {shift{nil, 201, 0}, nil, false}, {shift{nil, 0, 10000}, nil, false}, {shift{duties(0, 201), 0, 300}, nil, false}, {shift{duties(4, 4), 0, 300}, nil, false}, {shift{duties(1, 2, 0, 1), 0, 9}, nil, false}, {shift{duties(1, 2, 1, 2), 0, 9}, nil, true},
	} {
		if got := impl.LineOk(c.of.list, c.of.rest, c.of.most, c.line); got != c.want {
			t.Errorf("LineOk(%v, %v) = %t", c.of, c.line, got)
		}
	}
}

func TestRosterOk(t *testing.T) {
	possible, not := 0, 0
	for i, c := range validShifts() {
		// All divisions of six duties are too many for each shift.
		if len(c.list) == impl.MaxDuties && i%9 > 0 {
			continue
		}
		lines := possibleLines(c)
		forCrews(len(c.list), func(crew []int) {
			want := wantRoster(lines, crew)
			if got := impl.RosterOk(c.list, c.rest, c.most, crew); got != want {
				t.Errorf("RosterOk(%v, %v) = %t", c, crew, got)
			}
			if want {
				possible++
			} else {
				not++
			}
		})
	}
	if possible < 10000 || not < 10000 {
		t.Errorf("%d rosters are possible, and %d are not", possible, not)
	}
}

func TestRosters(t *testing.T) {
	four := duties(0, 5, 4, 8, 6, 9, 9, 12)
	for _, c := range []struct {
		of   shift
		crew []int
		want bool
		work []int
	}{
		{shift{nil, 0, 0}, nil, true, nil}, {shift{nil, 200, 9999}, ints(), true, nil}, {shift{nil, 0, 0}, ints(0), false, nil}, {shift{nil, 201, 0}, nil, false, nil}, {shift{nil, 0, -1}, nil, false, nil},
		{shift{four, 1, 8}, ints(0, 1, 0, 1), true, ints(8, 7)}, {shift{four, 1, 7}, ints(0, 1, 0, 1), false, ints(8, 7)}, {shift{four, 2, 8}, ints(0, 1, 0, 1), false, ints(8, 7)}, {shift{four, 1, 8}, ints(1, 0, 1, 0), true, ints(7, 8)}, {shift{four, 0, 20}, ints(0, 0, 1, 1), false, ints(9, 6)}, {shift{four, 0, 20}, ints(0, 1, 1, 0), false, ints(8, 7)},
		// Persons without duties before and between others have no work.
		{shift{four, 1, 8}, ints(3, 1, 3, 1), true, ints(0, 7, 0, 8)}, {shift{four, 200, 5}, ints(3, 2, 1, 0), true, ints(3, 3, 4, 5)}, {shift{four, 200, 4}, ints(3, 2, 1, 0), false, ints(3, 3, 4, 5)}, {shift{four, 0, 9}, ints(3, 3, 3, 3), false, ints(0, 0, 0, 15)}, {shift{four, 0, 11}, ints(2, 0, 2, 2), true, ints(4, 0, 11)}, {shift{four, 0, 10}, ints(2, 0, 2, 2), false, ints(4, 0, 11)},
		{shift{four, 0, 20}, ints(0, 1, 2, 4), false, nil}, {shift{four, 0, 20}, ints(0, 1, 2, -1), false, nil}, {shift{four, 0, 20}, ints(0, 1, 2), false, nil}, {shift{four, 0, 20}, ints(0, 1, 2, 3, 3), false, nil}, {shift{four, 0, 20}, nil, false, nil},
		// Rules that are out of range do not matter for work.
		{shift{four, 201, 20}, ints(0, 1, 2, 3), false, ints(5, 4, 3, 3)}, {shift{four, 0, 10000}, ints(0, 1, 2, 3), false, ints(5, 4, 3, 3)}, {shift{duties(0, 200, 0, 200, 0, 200, 0, 200, 0, 200, 0, 200), 0, 9999}, ints(5, 5, 5, 5, 5, 5), false, ints(0, 0, 0, 0, 0, 1200)}, {shift{chain(7, 0), 0, 99}, ints(0, 1, 2, 3, 4, 5, 6), false, nil},
	} {
		if got := impl.RosterOk(c.of.list, c.of.rest, c.of.most, c.crew); got != c.want {
			t.Errorf("RosterOk(%v, %v) = %t", c.of, c.crew, got)
		}
		if got := impl.WorkOf(c.of.list, c.crew); !slices.Equal(got, c.work) {
			t.Errorf("WorkOf(%v, %v) = %v, want %v", c.of.list, c.crew, got, c.work)
		}
	}
}

// crewsOf returns divisions of n duties among persons: all of few, and some of many.
func crewsOf(r *rand.Rand, n int) [][]int {
	var list [][]int
	if n <= 3 {
		forCrews(n, func(crew []int) { list = append(list, slices.Clone(crew)) })
		return list
	}
	for range 60 {
		list = append(list, randomNumbers(r, n, 0, r.Intn(n)))
	}
	return list
}

func TestWorkOf(t *testing.T) {
	r := numbers()
	for _, c := range validShifts() {
		for _, crew := range crewsOf(r, len(c.list)) {
			var want []int
			all := lengths(c.list)
			for person := 0; slices.ContainsFunc(crew, func(other int) bool { return other >= person }); person++ {
				work := 0
				for k, other := range crew {
					if other == person {
						work += all[k]
					}
				}
				want = append(want, work)
			}
			if got := impl.WorkOf(c.list, crew); !slices.Equal(got, want) {
				t.Errorf("WorkOf(%v, %v) = %v, want %v", c.list, crew, got, want)
			}
		}
	}
}

func TestLeastCrew(t *testing.T) {
	several, none := 0, 0
	for i, c := range validShifts() {
		// All divisions of six duties are too many for each shift.
		if len(c.list) == impl.MaxDuties && i%3 > 0 {
			continue
		}
		want, count := wantLeastCrew(c)
		if got, n := impl.LeastCrew(c.list, c.rest, c.most); n != count || !slices.Equal(got, want) {
			t.Errorf("LeastCrew(%v) = %v, %d, want %v, %d", c, got, n, want, count)
		}
		if count > 1 && count < len(want) {
			several++
		}
		if count < 0 {
			none++
		}
	}
	if several < 50 || none < 5 {
		t.Errorf("%d crews have several persons with several duties, and %d do not exist", several, none)
	}
}

func TestLeastCrews(t *testing.T) {
	four := duties(0, 5, 4, 8, 6, 9, 9, 12)
	all := slices.Repeat(duties(0, 200), 6)
	for _, c := range []struct {
		of    shift
		want  []int
		count int
	}{
		// Without duties nobody is needed.
		{shift{nil, 0, 0}, nil, 0}, {shift{nil, 200, 9999}, nil, 0}, {shift{nil, 201, 0}, nil, -1}, {shift{nil, -1, 0}, nil, -1}, {shift{nil, 0, 10000}, nil, -1}, {shift{nil, 0, -1}, nil, -1},
		{shift{four, 1, 20}, ints(0, 1, 0, 1), 2}, {shift{four, 0, 20}, ints(0, 1, 0, 0), 2}, {shift{four, 0, 11}, ints(0, 1, 0, 0), 2}, {shift{four, 0, 10}, ints(0, 1, 0, 1), 2}, {shift{four, 2, 20}, ints(0, 1, 2, 0), 3}, {shift{four, 4, 20}, ints(0, 1, 2, 0), 3}, {shift{four, 5, 20}, ints(0, 1, 2, 3), 4}, {shift{four, 1, 8}, ints(0, 1, 0, 1), 2}, {shift{four, 1, 7}, ints(0, 1, 2, 1), 3}, {shift{four, 0, 7}, ints(0, 1, 2, 1), 3}, {shift{four, 0, 6}, ints(0, 1, 2, 2), 3}, {shift{four, 0, 5}, ints(0, 1, 2, 3), 4}, {shift{four, 0, 4}, nil, -1}, {shift{four, 1, 4}, nil, -1},
		{shift{chain(6, 0), 0, 30}, ints(0, 0, 0, 0, 0, 0), 1}, {shift{chain(6, 0), 0, 29}, ints(0, 0, 0, 0, 0, 1), 2}, {shift{chain(6, 0), 1, 30}, ints(0, 1, 0, 1, 0, 1), 2}, {shift{chain(6, 0), 0, 10}, ints(0, 0, 1, 1, 2, 2), 3}, {shift{chain(6, 0), 5, 10}, ints(0, 1, 0, 2, 1, 2), 3}, {shift{chain(6, 0), 0, 5}, ints(0, 1, 2, 3, 4, 5), 6}, {shift{chain(6, 0), 0, 4}, nil, -1}, {shift{chain(7, 0), 0, 99}, nil, -1}, {shift{all, 0, 9999}, ints(0, 1, 2, 3, 4, 5), 6}, {shift{all, 0, 199}, nil, -1}, {shift{all, 200, 200}, ints(0, 1, 2, 3, 4, 5), 6},
		// The first person with room is not always right: a longer duty later needs it.
		{shift{duties(0, 3, 0, 1, 3, 4, 4, 7), 0, 4}, ints(0, 1, 0, 1), 2}, {shift{duties(0, 2, 2, 4, 4, 7, 7, 10), 0, 5}, ints(0, 1, 0, 1), 2}, {shift{duties(0, 1, 1, 2, 2, 5, 5, 8), 0, 4}, ints(0, 1, 0, 1), 2}, {shift{duties(0, 1, 1, 2, 2, 5, 5, 8), 0, 5}, ints(0, 0, 0, 1), 2},
	} {
		if got, n := impl.LeastCrew(c.of.list, c.of.rest, c.of.most); n != c.count || !slices.Equal(got, c.want) {
			t.Errorf("LeastCrew(%v) = %v, %d, want %v, %d", c.of, got, n, c.want, c.count)
		}
	}
}

func TestCrewBound(t *testing.T) {
	sizes := map[int]int{}
	for _, c := range validShifts() {
		want := wantBound(c)
		if got := impl.CrewBound(c.list, c.rest); got != want {
			t.Errorf("CrewBound(%v, %d) = %d, want %d", c.list, c.rest, got, want)
		}
		sizes[want]++
	}
	for n := range impl.MaxDuties + 1 {
		if sizes[n] < 3 {
			t.Errorf("only %d bounds are %d", sizes[n], n)
		}
	}
}

func TestCrewBounds(t *testing.T) {
	four := duties(0, 5, 4, 8, 6, 9, 9, 12)
	for _, c := range []struct {
		list []impl.Duty
		rest int
		want int
	}{
		{nil, 0, 0}, {nil, 200, 0}, {nil, 201, -1}, {nil, -1, -1}, {nil, greatestInt, -1}, {nil, leastInt, -1},
		{duties(0, 1), 0, 1}, {duties(0, 1), 200, 1}, {duties(199, 200), 200, 1}, {duties(199, 200), 201, -1},
		// A duty begins exactly rest after the end of the one before it, and one earlier.
		{four, 0, 2}, {four, 1, 2}, {four, 2, 3}, {four, 4, 3}, {four, 5, 4}, {four, 200, 4}, {duties(0, 5, 5, 6), 0, 1}, {duties(0, 5, 5, 6), 1, 2}, {duties(0, 5, 4, 6), 0, 2}, {duties(0, 1, 199, 200), 198, 1}, {duties(0, 1, 199, 200), 199, 2}, {duties(0, 1, 199, 200), 200, 2},
		// Duties that begin at the same time, and a long one that goes on behind others.
		{duties(3, 4, 3, 5, 3, 4), 0, 3}, {duties(3, 4, 3, 5, 4, 5), 0, 2}, {duties(0, 9, 1, 2, 3, 4, 5, 6, 7, 8, 9, 10), 0, 2}, {duties(0, 9, 1, 2, 3, 4, 5, 6, 7, 8, 9, 10), 1, 2}, {duties(0, 9, 1, 2, 3, 4, 5, 6, 7, 8, 9, 10), 2, 3}, {duties(0, 1, 0, 1, 0, 1, 5, 6, 7, 8), 0, 3}, {duties(0, 1, 2, 3, 5, 6, 5, 7, 5, 8), 0, 3},
		{chain(6, 0), 0, 1}, {chain(6, 0), 1, 2}, {chain(6, 0), 5, 2}, {chain(6, 0), 6, 3}, {chain(6, 0), 21, 6}, {chain(6, 0), 20, 5}, {chain(7, 0), 0, -1}, {slices.Repeat(duties(0, 200), 6), 0, 6}, {slices.Repeat(duties(0, 200), 7), 0, -1}, {duties(0, 201), 0, -1}, {duties(3, 3), 0, -1}, {duties(1, 2, 0, 1), 0, -1},
	} {
		if got := impl.CrewBound(c.list, c.rest); got != c.want {
			t.Errorf("CrewBound(%v, %d) = %d, want %d", c.list, c.rest, got, c.want)
		}
	}
}

func TestRostersWithInvalidArguments(t *testing.T) {
	checkLine := func(c shift, line []int) {
		if impl.LineOk(c.list, c.rest, c.most, line) {
			t.Errorf("LineOk(%v, %v) = true", c, line)
		}
	}
	checkCrew := func(c shift, crew []int) {
		if impl.RosterOk(c.list, c.rest, c.most, crew) {
			t.Errorf("RosterOk(%v, %v) = true", c, crew)
		}
	}
	checkWork := func(list []impl.Duty, crew []int) {
		if got := impl.WorkOf(list, crew); len(got) != 0 {
			t.Errorf("WorkOf(%v, %v) = %v", list, crew, got)
		}
	}
	checkLeast := func(c shift) {
		if got, n := impl.LeastCrew(c.list, c.rest, c.most); n != -1 || len(got) != 0 {
			t.Errorf("LeastCrew(%v) = %v, %d", c, got, n)
		}
	}
	for _, list := range invalidDuties() {
		c := shift{list, 0, impl.MaxTime}
		for _, line := range [][]int{nil, {0}, {1}, {0, 1}, {0, 1, 2}, {100}} {
			checkLine(c, line)
			checkCrew(c, line)
			checkWork(list, line)
		}
		alone := make([]int, len(list))
		checkCrew(c, alone)
		checkWork(list, alone)
		for k := range alone {
			alone[k] = k
		}
		checkCrew(c, alone)
		checkWork(list, alone)
		checkLeast(c)
		if got := impl.CrewBound(list, 0); got != -1 {
			t.Errorf("CrewBound(%v, 0) = %d", list, got)
		}
	}
	for _, c := range invalidRules() {
		checkLine(c, nil)
		checkLine(c, ints(0))
		checkCrew(c, []int{0, 1}[:len(c.list)])
		checkLeast(c)
		want := -1
		if within(c.rest, 0, impl.MaxClock) {
			// The limit of work, which is the fault, does not matter.
			want = min(1, len(c.list))
		}
		if got := impl.CrewBound(c.list, c.rest); got != want {
			t.Errorf("CrewBound(%v, %d) = %d, want %d", c.list, c.rest, got, want)
		}
	}
	for n := range impl.MaxDuties + 1 {
		c := shift{chain(n, 0), 0, impl.MaxTime}
		for _, line := range wrongSets(n) {
			checkLine(c, line)
		}
		for _, crew := range wrongCrews(n) {
			checkCrew(c, crew)
			checkWork(c.list, crew)
		}
	}
}

func TestP119LinesStayPossibleWithoutADuty(t *testing.T) {
	checked := 0
	for _, c := range validShifts() {
		for _, line := range subsets(len(c.list)) {
			if !impl.LineOk(c.list, c.rest, c.most, line) {
				continue
			}
			for i := range line {
				if fewer := minusOne(line, i); !impl.LineOk(c.list, c.rest, c.most, fewer) {
					t.Errorf("%v is a line of %v, but not %v", line, c, fewer)
				}
				checked++
			}
			for _, rest := range []int{0, c.rest / 2, max(c.rest-1, 0), c.rest} {
				for _, most := range []int{c.most, min(c.most+1, impl.MaxTime), impl.MaxTime} {
					if !impl.LineOk(c.list, rest, most, line) {
						t.Errorf("%v is a line of %v, but not with rest %d and most %d", line, c, rest, most)
					}
				}
			}
		}
	}
	if checked < 1000 {
		t.Errorf("only %d lines", checked)
	}
}

func TestP120RostersConsistOfLines(t *testing.T) {
	r := numbers()
	possible, not := 0, 0
	for _, c := range validShifts() {
		n := len(c.list)
		for _, crew := range crewsOf(r, n) {
			want := true
			for person := range n {
				var line []int
				for k := range n {
					if crew[k] == person {
						line = append(line, k)
					}
				}
				want = want && impl.LineOk(c.list, c.rest, c.most, line)
			}
			if got := impl.RosterOk(c.list, c.rest, c.most, crew); got != want {
				t.Errorf("RosterOk(%v, %v) = %t", c, crew, got)
			}
			if want {
				possible++
			} else {
				not++
			}
		}
	}
	if possible < 500 || not < 1000 {
		t.Errorf("%d rosters are possible, and %d are not", possible, not)
	}
}

func TestP121AllWorkIsDone(t *testing.T) {
	r := numbers()
	for _, c := range validShifts() {
		for _, crew := range crewsOf(r, len(c.list)) {
			if work := impl.WorkOf(c.list, crew); total(work) != total(lengths(c.list)) || len(work) != slices.Max(append(crew, -1))+1 {
				t.Errorf("WorkOf(%v, %v) = %v", c.list, crew, work)
			}
		}
	}
}

func TestP122TheSmallestCrewDoesEverything(t *testing.T) {
	found, none := 0, 0
	for _, c := range validShifts() {
		crew, count := impl.LeastCrew(c.list, c.rest, c.most)
		if count < 0 {
			// A duty is longer than anybody may work.
			if slices.Max(append(lengths(c.list), -1)) <= c.most {
				t.Errorf("LeastCrew(%v) = %v, %d", c, crew, count)
			}
			none++
			continue
		}
		found++
		work := impl.WorkOf(c.list, crew)
		if !impl.RosterOk(c.list, c.rest, c.most, crew) || len(work) != count {
			t.Errorf("LeastCrew(%v) = %v, %d", c, crew, count)
		}
		for _, sum := range work {
			// A person without duties would be a gap.
			if !within(sum, 1, c.most) {
				t.Errorf("LeastCrew(%v) = %v, but WorkOf is %v", c, crew, work)
			}
		}
	}
	if found < 100 || none < 5 {
		t.Errorf("%d crews exist, and %d do not", found, none)
	}
}

func TestP123DutiesAtTheSameTimeNeedPersons(t *testing.T) {
	more := 0
	for _, c := range validShifts() {
		bound := impl.CrewBound(c.list, c.rest)
		_, count := impl.LeastCrew(c.list, c.rest, c.most)
		if count >= 0 && !within(bound, 0, count) {
			t.Errorf("CrewBound(%v, %d) = %d, but LeastCrew has %d", c.list, c.rest, bound, count)
		}
		if count > bound {
			more++
		}
		if _, free := impl.LeastCrew(c.list, c.rest, impl.MaxTime); free != bound {
			t.Errorf("CrewBound(%v, %d) = %d, but LeastCrew has %d without a limit", c.list, c.rest, bound, free)
		}
	}
	if more < 20 {
		t.Errorf("only %d crews are larger because of their work", more)
	}
}

func TestP124StricterRulesNeedMorePersons(t *testing.T) {
	fewer, smaller := 0, 0
	for _, c := range validShifts() {
		_, count := impl.LeastCrew(c.list, c.rest, c.most)
		if count < 0 {
			continue
		}
		for _, rest := range []int{0, c.rest / 2, max(c.rest-1, 0), c.rest} {
			for _, most := range []int{c.most, min(c.most+1, impl.MaxTime), min(2*c.most, impl.MaxTime)} {
				_, easy := impl.LeastCrew(c.list, rest, most)
				if !within(easy, 0, count) {
					t.Errorf("LeastCrew(%v) has %d, but %d with rest %d and most %d", c, count, easy, rest, most)
				}
				if easy < count {
					fewer++
				}
			}
		}
		if last := len(c.list) - 1; last >= 0 {
			_, short := impl.LeastCrew(c.list[:last], c.rest, c.most)
			if !within(short, 0, count) {
				t.Errorf("LeastCrew(%v) has %d, but %d without the last duty", c, count, short)
			}
			if short < count {
				smaller++
			}
		}
	}
	if fewer < 50 || smaller < 50 {
		t.Errorf("%d crews are smaller with easier rules, and %d without the last duty", fewer, smaller)
	}
}

func TestP125MoreRestNeedsMorePersons(t *testing.T) {
	grown := 0
	for _, c := range validShifts() {
		last := 0
		for rest := range impl.MaxClock + 1 {
			bound := impl.CrewBound(c.list, rest)
			if !within(bound, last, len(c.list)) {
				t.Errorf("CrewBound(%v, %d) = %d, but %d with less rest", c.list, rest, bound, last)
			}
			if rest > 0 && bound > last {
				grown++
			}
			last = bound
		}
		// All that is before the last duty is too near with the greatest rest.
		if last != len(c.list) {
			t.Errorf("CrewBound(%v) = %d with the greatest rest", c.list, last)
		}
	}
	if grown < 100 {
		t.Errorf("only %d bounds grow", grown)
	}
}

func TestRostersAreNotChangedAndNotShared(t *testing.T) {
	var list []shift
	for _, wrong := range invalidDuties() {
		list = append(list, shift{wrong, 0, 99})
	}
	for _, c := range slices.Concat(validShifts(), invalidRules(), list) {
		best, _ := impl.LeastCrew(c.list, c.rest, c.most)
		if len(best) == 0 {
			best = make([]int, len(c.list))
		}
		kept, crew, line := spareDuties(c.list), spare(best), spare(ints(0)[:min(1, len(c.list))])
		checkMemory(t, "a function of chapter 19", []any{kept, crew, line}, func() []any {
			least, count := impl.LeastCrew(kept, c.rest, c.most)
			return []any{least, count, impl.LineOk(kept, c.rest, c.most, line), impl.RosterOk(kept, c.rest, c.most, crew), impl.WorkOf(kept, crew), impl.CrewBound(kept, c.rest)}
		})
	}
}
