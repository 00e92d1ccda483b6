package tests

import (
	"fmt"
	"math/rand"
	"regexp"
	"slices"
	"strconv"
	"strings"
	"testing"

	"loop.example/integerplanner/impl"
)

// The forms of the lines of a session; a number has at most five bytes as well.
var (
	numberForm = "(?:0|-?[1-9][0-9]*)"
	costsForm  = regexp.MustCompile("^costs(?: " + numberForm + ")*$")
	upperForm  = regexp.MustCompile("^upper " + numberForm + " " + numberForm + "$")
	proveForm  = regexp.MustCompile("^prove " + numberForm + "$")
)

// wantAnswer returns what a line makes of a problem, and its output.
func wantAnswer(p impl.Problem, line string) (impl.Problem, string) {
	words := strings.Split(line, " ")
	var numbers []int
	short := true
	for _, word := range words[1:] {
		n, _ := strconv.Atoi(word)
		numbers = append(numbers, n)
		short = short && len(word) <= 5
	}
	q := impl.Problem{}
	switch {
	case strings.HasPrefix(line, "row "):
		r, ok := impl.ParseRow(line[4:], len(p.Costs))
		if !ok {
			return p, "no"
		}
		q = with(p, r)
	case costsForm.MatchString(line) && short:
		q = problem(numbers, slices.Repeat(ints(1), len(numbers)))
	case upperForm.MatchString(line) && short:
		if !within(numbers[0], 0, len(p.Costs)-1) {
			return p, "no"
		}
		q = clone(p)
		q.Uppers[numbers[0]] = numbers[1]
	default:
		return p, wantQuestion(p, line, numbers, short)
	}
	if !impl.ValidProblem(q) {
		return p, "no"
	}
	return q, "ok"
}

// spacedText returns numbers, each of them followed by a space.
func spacedText(list []int) string {
	text := ""
	for _, a := range list {
		text += strconv.Itoa(a) + " "
	}
	return text
}

// costsLine returns the line that begins a problem with costs.
func costsLine(costs []int) string {
	return "costs " + strings.TrimSuffix(spacedText(costs), " ")
}

// wantQuestion returns the output of a line that changes nothing.
func wantQuestion(p impl.Problem, line string, numbers []int, short bool) string {
	switch {
	case line == "solve":
		if x, cost := impl.SolveExact(p); cost >= 0 {
			return fmt.Sprintf("%scost %d", spacedText(x), cost)
		}
		return "none"
	case line == "relax":
		if value, ok := impl.RelaxValue(p); ok {
			return fmt.Sprintf("%d/%d", value.Num, value.Den)
		}
		return "none"
	case line == "cause":
		if impl.CountFeasible(p) == 0 {
			return spacedText(impl.MinimalCause(p)) + "exclude each other"
		}
		return "none"
	case proveForm.MatchString(line) && short:
		if list, ok := impl.MakeProof(p, numbers[0]); ok {
			return fmt.Sprint(len(list))
		}
		return "no"
	}
	return "what"
}

// wantSession returns what RunSession returns.
func wantSession(lines []string) string {
	var p impl.Problem
	out := ""
	for _, line := range lines[:min(len(lines), 20)] {
		var answer string
		p, answer = wantAnswer(p, line)
		out += answer + "\n"
	}
	return out
}

// questions are the lines that ask something.
func questions() []string {
	return []string{"solve", "relax", "cause", "prove 0", "prove 1", "prove 7", "prove 12", "prove 9999"}
}

// randomLine returns a line of a session, mostly one that fits a problem with n variables.
func randomLine(r *rand.Rand, n int) string {
	text := func(high int) string { return strconv.Itoa(r.Intn(high+2) - r.Intn(8)/7) }
	switch r.Intn(12) {
	case 0:
		line := "costs"
		for range r.Intn(4) + r.Intn(3) {
			line += " " + text(12)
		}
		return line
	case 1, 2, 3:
		return "upper " + text(n) + " " + text(9)
	case 4, 5, 6:
		coefs := randomNumbers(r, max(1, n+(r.Intn(9)-7)/2), -2, 6)
		return "row " + impl.FormatRow(row(r.Intn(3)+1, r.Intn(30)-4, coefs...))
	case 7, 8, 9:
		all := questions()
		return all[r.Intn(len(all))]
	case 10:
		return "prove " + text(60)
	}
	odd := []string{"", " ", "help", "solve ", " solve", "solve 1", "costs ", "costs  1", "costs 01", "costs 1 x", "upper", "upper 0", "upper 0 1 2", "upper 0 -0", "row", "row ", "row x", "row 1 x0 >= 1 ", "prove", "prove 00", "prove 10000", "prove 100000", "prove -1", "cause 0", "relax\n", "Solve", "costs 9 9 9 9 9 9", "upper 0 10", "row 0 <= -1"}
	return odd[r.Intn(len(odd))]
}

// randomSession returns lines that begin, in most cases, with a problem.
func randomSession(r *rand.Rand, lines int) []string {
	n := r.Intn(4) + 1
	var list []string
	for len(list) < lines {
		if len(list) == r.Intn(3) {
			list = append(list, costsLine(randomNumbers(r, n, 0, 9)))
			continue
		}
		list = append(list, randomLine(r, n))
	}
	return list
}

// randomSessions returns sessions of all lengths.
func randomSessions() [][]string {
	list := [][]string{nil}
	r := numbers()
	for k := range 600 {
		list = append(list, randomSession(r, k%(impl.MaxLines+4)))
	}
	return list
}

func TestLimitsOfSessions(t *testing.T) {
	if impl.MaxLines != 20 {
		t.Error("the limit is wrong")
	}
}

func TestRunSession(t *testing.T) {
	answers := map[string]int{}
	for _, lines := range randomSessions() {
		want := wantSession(lines)
		if got := impl.RunSession(lines); got != want {
			t.Errorf("RunSession(%q) = %q, want %q", lines, got, want)
		}
		for _, answer := range strings.Split(want, "\n") {
			switch {
			case strings.Contains(answer, "cost"):
				answer = "cost"
			case strings.Contains(answer, "/"):
				answer = "quotient"
			case strings.Contains(answer, "exclude"):
				answer = "exclude"
			}
			answers[answer]++
		}
	}
	for _, answer := range []string{"ok", "no", "what", "none", "cost", "quotient", "exclude", "1"} {
		if answers[answer] < 50 {
			t.Errorf("%d answers are %q", answers[answer], answer)
		}
	}
	if answers["3"] < 5 {
		t.Errorf("only %d proofs have 3 claims", answers["3"])
	}
}

// beginning is a session that has a problem with a solution.
func beginning() []string {
	return []string{"costs 3 2", "upper 0 4", "upper 1 4", "row 2 x0 + 1 x1 >= 5"}
}

// contradiction is a session that has a problem without one.
func contradiction() []string {
	return []string{"costs 1 1", "upper 0 3", "row 0 <= 5", "row 1 x0 >= 2", "row 1 x0 <= 1"}
}

// answersTo returns the output of lines after others.
func answersTo(before []string, lines ...string) string {
	out := impl.RunSession(slices.Concat(before, lines))
	return strings.Join(strings.SplitAfter(out, "\n")[len(before):], "")
}

func TestAnswers(t *testing.T) {
	for _, c := range []struct {
		before []string
		line   string
		want   string
	}{
		// Without a problem.
		{nil, "solve", "none"}, {nil, "relax", "none"}, {nil, "cause", "none"}, {nil, "prove 0", "no"}, {nil, "prove 5", "no"}, {nil, "upper 0 1", "no"}, {nil, "upper 0 0", "no"}, {nil, "row 1 x0 >= 0", "no"}, {nil, "row 0 >= 0", "no"}, {nil, "row x", "no"}, {nil, "costs", "no"}, {nil, "costs 1", "ok"}, {nil, "help", "what"}, {nil, "upper 0", "what"}, {nil, "row", "what"}, {nil, "", "what"},
		// With one that has a solution.
		{beginning(), "solve", "2 1 cost 8"}, {beginning(), "relax", "15/2"}, {beginning(), "cause", "none"}, {beginning(), "prove 0", "1"}, {beginning(), "prove 8", "1"}, {beginning(), "prove 9", "no"}, {beginning(), "prove 9999", "no"}, {beginning(), "prove -1", "no"}, {beginning(), "prove 10000", "no"}, {beginning(), "prove -9999", "no"},
		{beginning()[:3], "solve", "0 0 cost 0"}, {beginning()[:3], "relax", "0/1"}, {beginning()[:3], "prove 0", "1"}, {beginning()[:3], "prove 1", "no"}, {beginning()[:1], "solve", "0 0 cost 0"}, {beginning()[:1], "cause", "none"}, {append(beginning(), "row 1 x1 >= 5"), "solve", "none"}, {append(beginning(), "row 1 x1 >= 5"), "cause", "1 exclude each other"},
		{[]string{"costs 7", "row 2 x0 >= 1"}, "solve", "1 cost 7"}, {[]string{"costs 7", "row 2 x0 >= 1"}, "relax", "7/2"}, {[]string{"costs 0 0 0 0 0"}, "solve", "0 0 0 0 0 cost 0"}, {[]string{"costs 99", "upper 0 9", "row 1 x0 = 9"}, "solve", "9 cost 891"}, {[]string{"costs 99", "upper 0 9", "row 1 x0 = 9"}, "relax", "891/1"}, {[]string{"costs 1", "upper 0 9", "row 2 x0 = 9"}, "prove 9999", "3"}, {[]string{"costs 1", "upper 0 9", "row 2 x0 = 9"}, "prove 5", "1"}, {[]string{"costs 1", "upper 0 9", "row 2 x0 = 9"}, "solve", "none"}, {[]string{"costs 1", "upper 0 9", "row 2 x0 = 9"}, "relax", "9/2"}, {[]string{"costs 1", "upper 0 9", "row 2 x0 = 9"}, "cause", "0 exclude each other"},
		// With one that has none.
		{contradiction(), "solve", "none"}, {contradiction(), "relax", "none"}, {contradiction(), "cause", "1 2 exclude each other"}, {contradiction(), "prove 0", "1"}, {contradiction(), "prove 9999", "1"}, {contradiction(), "prove 10000", "no"}, {contradiction(), "prove -1", "no"},
		// Numbers that are valid in themselves.
		{nil, "costs 0", "ok"}, {nil, "costs 99 99 99 99 99", "ok"}, {nil, "costs 1 1 1 1 1 1", "no"}, {nil, "costs 100", "no"}, {nil, "costs -1", "no"}, {nil, "costs 1 -1", "no"}, {nil, "costs 99999", "no"}, {nil, "costs -9999", "no"}, {beginning(), "upper 0 0", "ok"}, {beginning(), "upper 1 9", "ok"}, {beginning(), "upper 1 10", "no"}, {beginning(), "upper 1 -1", "no"}, {beginning(), "upper 2 1", "no"}, {beginning(), "upper -1 1", "no"}, {beginning(), "upper 99999 1", "no"}, {beginning(), "upper 1 -9999", "no"},
		// Numbers that are none, because of their length, their zeros or their signs.
		{nil, "costs 100000", "what"}, {nil, "costs -10000", "what"}, {nil, "costs -99999", "what"}, {nil, "costs 00001", "what"}, {nil, "costs 000001", "what"}, {nil, "costs 01", "what"}, {nil, "costs 00", "what"}, {nil, "costs -0", "what"}, {nil, "costs -01", "what"}, {nil, "costs +1", "what"}, {nil, "costs --1", "what"}, {nil, "costs -", "what"}, {nil, "costs 1_0", "what"}, {nil, "costs 0x1", "what"}, {nil, "costs 1.0", "what"}, {nil, "costs 1e1", "what"}, {nil, "costs x", "what"}, {nil, "costs 1 x", "what"}, {nil, "costs 1,2", "what"}, {nil, "costs 1\t2", "what"}, {nil, "costs 1\n", "what"}, {nil, "costs \u0661", "what"}, {nil, "costs 99999999999999999999", "what"}, {nil, "costs 1 1 1 1 1 1 01", "what"},
		{beginning(), "upper 0 -0", "what"}, {beginning(), "upper -0 1", "what"}, {beginning(), "upper 00 1", "what"}, {beginning(), "upper 0 01", "what"}, {beginning(), "upper 0 100000", "what"}, {beginning(), "upper 100000 1", "what"}, {beginning(), "prove 100000", "what"}, {beginning(), "prove 08", "what"}, {beginning(), "prove -0", "what"}, {beginning(), "prove x", "what"}, {beginning(), "prove 00008", "what"},
		// Another count of numbers, and spaces that are too many.
		{beginning(), "solve 0", "what"}, {beginning(), "relax 0", "what"}, {beginning(), "cause 0", "what"}, {beginning(), "prove", "what"}, {beginning(), "prove 1 1", "what"}, {beginning(), "upper", "what"}, {beginning(), "upper 0", "what"}, {beginning(), "upper 0 1 1", "what"}, {beginning(), "solve ", "what"}, {beginning(), "relax ", "what"}, {beginning(), "cause ", "what"}, {beginning(), "prove 8 ", "what"}, {beginning(), "prove  8", "what"}, {beginning(), "prove ", "what"}, {beginning(), "upper 0 1 ", "what"}, {beginning(), "upper  0 1", "what"}, {beginning(), "upper 0  1", "what"}, {nil, "costs ", "what"}, {nil, "costs  1", "what"}, {nil, "costs 1 ", "what"}, {nil, "costs 1  1", "what"}, {nil, " costs 1", "what"}, {beginning(), " solve", "what"}, {beginning(), " ", "what"}, {beginning(), "", "what"},
		// Words that are no commands.
		{beginning(), "Solve", "what"}, {beginning(), "solved", "what"}, {beginning(), "solv", "what"}, {beginning(), "solve\n", "what"}, {beginning(), "solve\x00", "what"}, {beginning(), "cost", "what"}, {nil, "costs1", "what"}, {nil, "cost 1", "what"}, {beginning(), "help", "what"}, {beginning(), "1", "what"}, {beginning(), "uppers 0 1", "what"}, {beginning(), "rows 1 x0 >= 1", "what"}, {beginning(), "row1 x0 >= 1", "what"}, {beginning(), "row\t1 x0 >= 1", "what"}, {beginning(), "row", "what"}, {beginning(), "Row 1 x0 >= 1", "what"}, {beginning(), " row 1 x0 >= 1", "what"},
		// The text of a row is whatever follows.
		{beginning(), "row ", "no"}, {beginning(), "row  ", "no"}, {beginning(), "row x", "no"}, {beginning(), "row  1 x0 >= 1", "no"}, {beginning(), "row 1 x0 >= 1 ", "no"}, {beginning(), "row 1 x0 >= 01", "no"}, {beginning(), "row 1 x2 >= 1", "no"}, {beginning(), "row 10 x0 >= 1", "no"}, {beginning(), "row 1 x0 >= 100", "no"}, {beginning(), "row 1 x0 >= 1\n", "no"}, {beginning(), "row row 1 x0 >= 1", "no"}, {beginning(), "row 1 x0 > 1", "no"}, {beginning(), "row 1 x0 >= 1", "ok"}, {beginning(), "row 9 x0 - 9 x1 <= -99", "ok"}, {beginning(), "row 0 = 99", "ok"}, {beginning(), "row 1 x1 = 4", "ok"},
	} {
		if got := answersTo(c.before, c.line); got != c.want+"\n" {
			t.Errorf("after %q, %q is answered by %q, not %q", c.before, c.line, got, c.want)
		}
		if got := wantSession(append(slices.Clone(c.before), c.line)); !strings.HasSuffix(got, c.want+"\n") {
			t.Errorf("after %q, %q should be answered by %q", c.before, c.line, got)
		}
	}
}

// TestCommandsThatFailChangeNothing asks everything after each command that fails.
func TestCommandsThatFailChangeNothing(t *testing.T) {
	full := []string{"costs 2 3", "upper 0 5", "row 1 x0 + 1 x1 >= 2", "row 1 x0 <= 4", "row 1 x0 <= 5", "row 1 x0 <= 6", "row 1 x0 <= 7", "row 1 x0 <= 8"}
	for _, before := range [][]string{nil, beginning(), contradiction(), full} {
		want := answersTo(before, questions()...)
		for _, line := range []string{"costs", "costs 100", "costs -1 0", "costs 1 1 1 1 1 1", "costs 5 01", "costs 4 4 ", "upper 0 10", "upper 0 -1", "upper 1 99999", "upper 2 1", "upper 5 1", "upper -1 1", "upper 0", "row", "row ", "row 1 x0 >= 100", "row 1 x5 >= 1", "row 10 x0 >= 1", "row 1 x0 >= 1 ", "row x", "solve 1", "help", ""} {
			if got := answersTo(before, line); got != "no\n" && got != "what\n" {
				t.Errorf("after %q, %q is answered by %q", before, line, got)
			}
			if got := answersTo(append(slices.Clone(before), line), questions()...); got != want {
				t.Errorf("after %q and %q, the questions are answered by %q, not %q", before, line, got, want)
			}
		}
	}
	// There is no room for one more row, but for other commands.
	if got := answersTo(full, "row 1 x0 <= 3", "solve", "upper 1 9", "row 0 <= 0", "upper 0 0", "solve"); got != "no\n2 0 cost 4\nok\nno\nok\n0 2 cost 6\n" {
		t.Errorf("with six rows: %q", got)
	}
}

func TestCommandsChangeWhatTheySay(t *testing.T) {
	for _, c := range []struct {
		lines []string
		want  string
	}{
		{nil, ""}, {[]string{""}, "what\n"}, {[]string{"costs 1"}, "ok\n"},
		// Upper bounds of 1 at first.
		{[]string{"costs 3 2 9", "row 1 x0 + 1 x1 + 1 x2 >= 2", "solve", "upper 1 2", "solve", "upper 1 0", "solve", "upper 0 0", "solve"}, "ok\nok\n1 1 0 cost 5\nok\n0 2 0 cost 4\nok\n1 0 1 cost 12\nok\nnone\n"},
		// Rows come last, and are those of the variables of the problem.
		{[]string{"costs 1", "row 1 x1 >= 1", "row 1 x0 >= 1", "costs 1 1", "row 1 x1 >= 1", "solve", "row 1 x0 >= 2", "cause", "row 1 x1 <= 0", "cause"}, "ok\nno\nok\nok\nok\n0 1 cost 1\nok\n1 exclude each other\nok\n1 exclude each other\n"},
		{[]string{"costs 1 1", "row 1 x0 + 1 x1 >= 2", "row 1 x0 <= 0", "cause", "upper 1 2", "cause", "solve"}, "ok\nok\nok\n0 1 exclude each other\nok\nnone\n0 2 cost 2\n"},
		// New costs begin anew, if they are accepted.
		{[]string{"costs 5", "row 1 x0 >= 1", "upper 0 7", "costs 6", "solve", "costs 4 4", "upper 1 3", "costs", "row 1 x1 = 3", "costs 200", "solve"}, "ok\nok\nok\nok\n0 cost 0\nok\nok\nno\nok\nno\n0 3 cost 12\n"},
		// A command that fails, and then one that does not.
		{[]string{"upper 0 4", "costs 2", "upper 0 4", "upper 0 12", "row 1 x0 >= 4", "solve", "upper 0 3", "solve"}, "no\nok\nok\nno\nok\n4 cost 8\nok\nnone\n"},
	} {
		if got := impl.RunSession(c.lines); got != c.want {
			t.Errorf("RunSession(%q) = %q, want %q", c.lines, got, c.want)
		}
		if got := wantSession(c.lines); got != c.want {
			t.Errorf("the session %q should have the output %q", c.lines, got)
		}
	}
}

func TestSessionsOfManyLines(t *testing.T) {
	for n := range 45 {
		if got, want := impl.RunSession(slices.Repeat([]string{"solve"}, n)), strings.Repeat("none\n", min(n, impl.MaxLines)); got != want {
			t.Errorf("RunSession of %d lines = %q", n, got)
		}
	}
	lines := append(slices.Repeat([]string{"help"}, impl.MaxLines-2), "costs 3", "solve", "solve", "help")
	if got := impl.RunSession(lines); got != strings.Repeat("what\n", impl.MaxLines-2)+"ok\n0 cost 0\n" {
		t.Errorf("RunSession(%q) = %q", lines, got)
	}
	many := slices.Repeat([]string{"costs" + strings.Repeat(" 1", 100000), "upper 0 " + strings.Repeat("9", 100000), "row " + strings.Repeat("1 x0 + ", 100000), strings.Repeat("solve", 100000)}, 5000)
	if got := impl.RunSession(many); got != strings.Repeat("no\nwhat\nno\nwhat\n", impl.MaxLines/4) {
		t.Errorf("RunSession = %q for long lines", got)
	}
}

// TestLinesThatAreAlmostCommands compares the answers to lines that differ from commands in a byte.
func TestLinesThatAreAlmostCommands(t *testing.T) {
	for _, before := range [][]string{nil, beginning(), contradiction()} {
		for _, line := range append(questions(), "costs", "costs 7 3", "costs 99999", "costs -9999", "upper 0 4", "upper 1 -1", "row 1 x0 >= 1", "row 2 x0 - 1 x1 <= -3") {
			for _, near := range nearTexts(line, " 0159-+x\n") {
				lines := append(slices.Clone(before), near, "solve", "cause")
				if got, want := impl.RunSession(lines), wantSession(lines); got != want {
					t.Errorf("RunSession(%q) = %q, want %q", lines, got, want)
				}
			}
		}
	}
}

// TestSessionsAreTold compares the answers with those of the functions for problems of all kinds.
func TestSessionsAreTold(t *testing.T) {
	for _, p := range slices.Concat(edgeProblems(), tiedProblems()[:60], contradictions()[:40], parityProblems()[:60], wideProblems()) {
		lines := []string{costsLine(p.Costs)}
		for v, u := range p.Uppers {
			lines = append(lines, fmt.Sprintf("upper %d %d", v, u))
		}
		for _, r := range p.Rows {
			lines = append(lines, "row "+impl.FormatRow(r))
		}
		asked := []string{"solve", "relax", "cause", "prove 9999", "prove 3"}
		want := strings.Repeat("ok\n", len(lines))
		for _, line := range asked {
			_, answer := wantAnswer(p, line)
			want += answer + "\n"
		}
		if got := impl.RunSession(append(lines, asked...)); got != want {
			t.Errorf("RunSession(%q) = %q, want %q", lines, got, want)
		}
	}
}

func TestP169SessionsRunLineByLine(t *testing.T) {
	for _, lines := range randomSessions() {
		out := impl.RunSession(lines)
		if n := strings.Count(out, "\n"); n != min(len(lines), impl.MaxLines) {
			t.Errorf("RunSession(%q) has %d lines", lines, n)
		}
		for k := range lines {
			first := impl.RunSession(lines[:k])
			if !strings.HasPrefix(out, first) || strings.Count(first, "\n") != min(k, impl.MaxLines) {
				t.Errorf("RunSession(%q) = %q, but %q for the first %d lines", lines, out, first, k)
			}
		}
	}
}

func TestP170QuestionsChangeNothing(t *testing.T) {
	all := questions()
	for k, lines := range randomSessions() {
		lines = lines[:min(len(lines), impl.MaxLines/2)]
		var asked []string
		for i, line := range lines {
			asked = append(asked, all[(k+i)%len(all)], line)
		}
		out := ""
		for i, answer := range strings.SplitAfter(impl.RunSession(asked), "\n") {
			if i%2 == 1 {
				out += answer
			}
		}
		if want := impl.RunSession(lines); out != want {
			t.Errorf("RunSession(%q) = %q, but %q with questions", lines, want, out)
		}
	}
}

func TestP171NewCostsBeginAnew(t *testing.T) {
	begun := 0
	for _, lines := range randomSessions() {
		lines = lines[:min(len(lines), impl.MaxLines)]
		answers := strings.SplitAfter(impl.RunSession(lines), "\n")
		for k, line := range lines {
			if !strings.HasPrefix(line, "costs ") || answers[k] != "ok\n" {
				continue
			}
			if want, got := strings.Join(answers[k:], ""), impl.RunSession(lines[k:]); got != want {
				t.Errorf("RunSession(%q) = %q, but %q behind other lines", lines[k:], got, want)
			}
			if k > 2 {
				begun++
			}
		}
	}
	if begun < 100 {
		t.Errorf("only %d problems begin after others", begun)
	}
}

func TestSessionsAreNotChangedAndKeepNothing(t *testing.T) {
	for _, lines := range randomSessions() {
		long := append(slices.Clone(lines), "mark", "mark")
		arg := long[:len(lines)]
		checkMemory(t, "RunSession", []any{arg}, func() []any { return []any{impl.RunSession(arg)} })
	}
	for range 2 {
		if got := impl.RunSession([]string{"solve", "costs 1", "solve"}); got != "none\nok\n0 cost 0\n" {
			t.Errorf("RunSession = %q", got)
		}
	}
}
