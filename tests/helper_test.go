package tests

import (
	"math/rand"
	"slices"
	"strings"

	"loop.example/integerplanner/impl"
)

// leastInt and greatestInt are the limits of an int.
const (
	greatestInt = int(^uint(0) >> 1)
	leastInt    = -greatestInt - 1
)

// mark stands behind the end of slices that a function must not write to.
const mark = 77

// numbers returns a source of numbers that is the same in every run.
func numbers() *rand.Rand {
	return rand.New(rand.NewSource(1))
}

// within reports whether a number is in low..high.
func within(a int, low int, high int) bool {
	return low <= a && a <= high
}

// power returns a to the exponent n.
func power(a int, n int) int {
	p := 1
	for range n {
		p *= a
	}
	return p
}

// spare returns a copy of numbers with marks in its spare capacity.
func spare(list []int) []int {
	long := slices.Concat(list, []int{mark, mark, mark})
	return long[:len(list)]
}

// spareTerms returns a copy of terms with marks in its spare capacity.
func spareTerms(list []impl.Term) []impl.Term {
	m := impl.Term{Var: mark, Coef: mark}
	long := slices.Concat(list, slices.Repeat([]impl.Term{m}, 2*impl.MaxTerms))
	return long[:len(list)]
}

// whole returns a slice with its spare capacity.
func whole[T any](list []T) []T {
	return list[:cap(list)]
}

// overwrite changes all of a slice, and its spare capacity.
func overwrite[T any](list []T, value T) {
	for i := range whole(list) {
		whole(list)[i] = value
	}
}

// nearTexts returns all texts that one inserted, removed, replaced or doubled
// byte, or two exchanged ones, make of a text.
func nearTexts(text string, alphabet string) []string {
	var list []string
	for i := 0; i <= len(text); i++ {
		for _, c := range alphabet {
			list = append(list, text[:i]+string(c)+text[i:])
			if i < len(text) {
				list = append(list, text[:i]+string(c)+text[i+1:])
			}
		}
		if i < len(text) {
			list = append(list, text[:i]+text[i+1:], text[:i]+text[i:i+1]+text[i:])
		}
		if i+1 < len(text) {
			list = append(list, text[:i]+text[i+1:i+2]+text[i:i+1]+text[i+2:])
		}
	}
	return append(list, strings.ToUpper(text), text+text, text+"\x00", text+"\n", " "+text+" ")
}
