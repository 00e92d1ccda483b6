package impl

import (
	"errors"
	"strconv"
	"strings"
)

// MaxBound is the largest bound of a row.
const MaxBound = 99

// AtMost is the sense of a row whose left side is at most its bound.
const AtMost = 1

// AtLeast is the sense of a row whose left side is at least its bound.
const AtLeast = 2

// Equal is the sense of a row whose left side is equal to its bound.
const Equal = 3

// senseTexts has the texts of the senses at their numbers.
var senseTexts = [4]string{"", "<=", ">=", "="}

// errNoTerm says that the left side of a row ends.
var errNoTerm = errors.New("no more terms")

// errText says that a text is not that of a row.
var errText = errors.New("not the text of a row")

// Row is a linear constraint.
type Row struct {
	Coefs []int
	Sense int
	Bound int
}

// ValidRow reports whether a row is valid for a number of variables.
func ValidRow(r Row, n int) bool {
	if !inRange(n, 1, MaxVars) || len(r.Coefs) != n {
		return false
	}
	for _, c := range r.Coefs {
		if !inRange(c, -MaxCoef, MaxCoef) {
			return false
		}
	}
	return inRange(r.Sense, AtMost, Equal) && inRange(r.Bound, -MaxBound, MaxBound)
}

// RowOfTerms returns the row with terms on its left side.
func RowOfTerms(list []Term, n int, sense int, bound int) (Row, bool) {
	normal, ok := NormalTerms(list)
	if !ok || !inRange(n, 1, MaxVars) {
		return Row{}, false
	}
	// The normal form does not show all variables.
	for _, t := range list {
		if t.Var >= n {
			return Row{}, false
		}
	}
	r := Row{Coefs: make([]int, n), Sense: sense, Bound: bound}
	for _, t := range normal {
		r.Coefs[t.Var] = t.Coef
	}
	if !ValidRow(r, n) {
		return Row{}, false
	}
	return r, true
}

// RowHolds reports whether a row holds for a point.
func RowHolds(r Row, x []int) bool {
	return ValidRow(r, len(x)) && validValues(x) && r.holds(x)
}

// NegateRow returns a row with all its numbers negated.
func NegateRow(r Row) Row {
	if !r.valid() {
		return Row{}
	}
	negated := Row{Coefs: make([]int, len(r.Coefs)), Sense: r.Sense, Bound: -r.Bound}
	for i, c := range r.Coefs {
		negated.Coefs[i] = -c
	}
	switch r.Sense {
	case AtMost:
		negated.Sense = AtLeast
	case AtLeast:
		negated.Sense = AtMost
	}
	return negated
}

// FormatRow returns the text of a row.
func FormatRow(r Row) string {
	if !r.valid() {
		return ""
	}
	text := ""
	for i, c := range r.Coefs {
		switch {
		case c == 0:
			continue
		case text == "":
			text = strconv.Itoa(c)
		case c > 0:
			text += " + " + strconv.Itoa(c)
		default:
			text += " - " + strconv.Itoa(-c)
		}
		text += " x" + strconv.Itoa(i)
	}
	if text == "" {
		text = "0"
	}
	return text + " " + senseTexts[r.Sense] + " " + strconv.Itoa(r.Bound)
}

// ParseRow returns the row with a text.
func ParseRow(s string, n int) (Row, bool) {
	if !inRange(n, 1, MaxVars) {
		return Row{}, false
	}
	in := rowScanner{s}
	r, err := in.row(n)
	// A row has only one text: this rejects any other order or spelling of what
	// the scanner reads, and terms that it reads twice.
	if err != nil || !ValidRow(r, n) || FormatRow(r) != s {
		return Row{}, false
	}
	return r, true
}

// valid reports whether a row is valid for its coefficients.
func (r Row) valid() bool {
	return ValidRow(r, len(r.Coefs))
}

// holds reports whether a valid row holds for values of its variables.
func (r Row) holds(x []int) bool {
	left := r.leftSide(x)
	switch r.Sense {
	case AtMost:
		return left <= r.Bound
	case AtLeast:
		return left >= r.Bound
	}
	return left == r.Bound
}

// leftSide returns the sum of the products of coefficients and values.
func (r Row) leftSide(x []int) int {
	return sumOfProducts(r.Coefs, x)
}

// sumOfProducts returns the sum of the products of numbers at the same places.
func sumOfProducts(a []int, b []int) int {
	sum := 0
	for i, v := range a {
		sum += v * b[i]
	}
	return sum
}

// rowScanner reads the text of a row from its beginning; rest is what is not read yet.
type rowScanner struct {
	rest string
}

// row reads the text of a row of n variables, which need not be valid.
func (in *rowScanner) row(n int) (Row, error) {
	coefs, err := in.coefs(n)
	if err != nil {
		return Row{}, err
	}
	sense, err := in.sense()
	if err != nil {
		return Row{}, err
	}
	bound, err := in.number()
	if err != nil {
		return Row{}, err
	}
	if in.rest != "" {
		return Row{}, errText
	}
	return Row{Coefs: coefs, Sense: sense, Bound: bound}, nil
}

// coefs reads the left side of a row of n variables.
func (in *rowScanner) coefs(n int) ([]int, error) {
	coefs := make([]int, n)
	if in.skip("0") {
		return coefs, nil
	}
	t, err := in.term()
	for err == nil {
		if t.Var >= n {
			return nil, errText
		}
		coefs[t.Var] = t.Coef
		t, err = in.nextTerm()
	}
	if errors.Is(err, errNoTerm) {
		return coefs, nil
	}
	return nil, err
}

// nextTerm reads a term that is not the first one, with its sign; errNoTerm if
// no term follows.
func (in *rowScanner) nextTerm() (Term, error) {
	if in.skip(" + ") {
		return in.term()
	}
	if in.skip(" - ") {
		t, err := in.term()
		return Term{Var: t.Var, Coef: -t.Coef}, err
	}
	return Term{}, errNoTerm
}

// term reads a coefficient and a variable.
func (in *rowScanner) term() (Term, error) {
	coef, err := in.number()
	if err != nil {
		return Term{}, err
	}
	if !in.skip(" x") {
		return Term{}, errText
	}
	v, err := in.number()
	// Signed numbers of variables would be no indices.
	if err != nil || v < 0 {
		return Term{}, errText
	}
	return Term{Var: v, Coef: coef}, nil
}

// sense reads the sense of a row, with the spaces around it.
func (in *rowScanner) sense() (int, error) {
	for sense := AtMost; sense <= Equal; sense++ {
		if in.skip(" " + senseTexts[sense] + " ") {
			return sense, nil
		}
	}
	return 0, errText
}

// number reads as many digits as there are, with a leading - if there is one.
func (in *rowScanner) number() (int, error) {
	end := 0
	if strings.HasPrefix(in.rest, "-") {
		end = 1
	}
	for end < len(in.rest) && '0' <= in.rest[end] && in.rest[end] <= '9' {
		end++
	}
	n, err := strconv.Atoi(in.rest[:end])
	if err != nil {
		return 0, errText
	}
	in.rest = in.rest[end:]
	return n, nil
}

// skip reads a text if it comes next, and reports whether it does.
func (in *rowScanner) skip(text string) bool {
	rest, found := strings.CutPrefix(in.rest, text)
	if found {
		in.rest = rest
	}
	return found
}
