package impl

import "slices"

// MaxVars is the largest number of variables.
const MaxVars = 5

// MaxCoef is the largest coefficient.
const MaxCoef = 9

// MaxTerms is the largest number of terms.
const MaxTerms = 12

// MaxUpper is the largest value of a variable.
const MaxUpper = 9

// Term is a coefficient with its variable.
type Term struct {
	Var  int
	Coef int
}

// NormalTerms returns terms in normal form.
func NormalTerms(list []Term) ([]Term, bool) {
	if !validTerms(list) {
		return nil, false
	}
	return collectTerms(list, 1)
}

// AddTerms returns the sum of terms in normal form.
func AddTerms(a []Term, b []Term) ([]Term, bool) {
	if !validTerms(a) || !validTerms(b) {
		return nil, false
	}
	// Together they may be more than MaxTerms.
	return collectTerms(slices.Concat(a, b), 1)
}

// ScaleTerms returns a multiple of terms in normal form.
func ScaleTerms(list []Term, k int) ([]Term, bool) {
	if !validTerms(list) || !inRange(k, -MaxCoef, MaxCoef) {
		return nil, false
	}
	return collectTerms(list, k)
}

// EvalTerms returns the value of terms.
func EvalTerms(list []Term, x []int) int {
	// A value belongs to a variable even if no term, or only terms that add up
	// to 0, have this variable: otherwise the normal form of terms, or their
	// parts, could have a value at a point at which the terms have none.
	values := x[:min(len(x), MaxVars)]
	if !validTerms(list) || !validValues(values) {
		return 0
	}
	sum := 0
	for _, t := range list {
		if t.Var < len(values) {
			sum += t.Coef * values[t.Var]
		}
	}
	return sum
}

// valid reports whether a term has a variable and a coefficient that are allowed.
func (t Term) valid() bool {
	return inRange(t.Var, 0, MaxVars-1) && inRange(t.Coef, -MaxCoef, MaxCoef)
}

// validTerms reports whether terms are valid.
func validTerms(list []Term) bool {
	if len(list) > MaxTerms {
		return false
	}
	for _, t := range list {
		if !t.valid() {
			return false
		}
	}
	return true
}

// validValues reports whether all numbers are allowed as values of variables.
func validValues(x []int) bool {
	for _, v := range x {
		if !inRange(v, 0, MaxUpper) {
			return false
		}
	}
	return true
}

// collectTerms returns factor times terms in normal form, and true; nil and
// false if a coefficient is too large. Only the results are limited, not the
// sums without the factor.
func collectTerms(list []Term, factor int) ([]Term, bool) {
	coefs := map[int]int{}
	for _, t := range list {
		coefs[t.Var] += factor * t.Coef
	}
	var normal []Term
	for v := range MaxVars {
		t := Term{Var: v, Coef: coefs[v]}
		if !t.valid() {
			return nil, false
		}
		if t.Coef != 0 {
			normal = append(normal, t)
		}
	}
	return normal, true
}
