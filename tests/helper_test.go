package tests

import (
	"fmt"
	"math/rand"
	"reflect"
	"runtime"
	"slices"
	"strconv"
	"strings"
	"testing"

	"loop.example/integerplanner/impl"
)

// leastInt and greatestInt are the limits of an int.
const (
	greatestInt = int(^uint(0) >> 1)
	leastInt    = -greatestInt - 1
)

// mark stands behind the end of slices that a function must not write to.
const mark = 77

// numbers returns a source of numbers that is the same in every run.
func numbers() *rand.Rand {
	return rand.New(rand.NewSource(1))
}

// within reports whether a number is in low..high.
func within(a int, low int, high int) bool {
	return low <= a && a <= high
}

// power returns a to the exponent n.
func power(a int, n int) int {
	p := 1
	for range n {
		p *= a
	}
	return p
}

// spare returns a copy of numbers with marks in its spare capacity.
func spare(list []int) []int {
	long := slices.Concat(list, []int{mark, mark, mark})
	return long[:len(list)]
}

// spareTerms returns a copy of terms with marks in its spare capacity.
func spareTerms(list []impl.Term) []impl.Term {
	m := impl.Term{Var: mark, Coef: mark}
	long := slices.Concat(list, slices.Repeat([]impl.Term{m}, 2*impl.MaxTerms))
	return long[:len(list)]
}

// whole returns a slice with its spare capacity.
func whole[T any](list []T) []T {
	return list[:cap(list)]
}

// overwrite changes all of a slice, and its spare capacity.
func overwrite[T any](list []T, value T) {
	for i := range whole(list) {
		whole(list)[i] = value
	}
}

// nearTexts returns all texts that one inserted, removed, replaced or doubled
// byte, or two exchanged ones, make of a text.
func nearTexts(text string, alphabet string) []string {
	var list []string
	for i := 0; i <= len(text); i++ {
		for _, c := range alphabet {
			list = append(list, text[:i]+string(c)+text[i:])
			if i < len(text) {
				list = append(list, text[:i]+string(c)+text[i+1:])
			}
		}
		if i < len(text) {
			list = append(list, text[:i]+text[i+1:], text[:i]+text[i:i+1]+text[i:])
		}
		if i+1 < len(text) {
			list = append(list, text[:i]+text[i+1:i+2]+text[i:i+1]+text[i+2:])
		}
	}
	return append(list, strings.ToUpper(text), text+text, text+"\x00", text+"\n", " "+text+" ")
}

// ints returns numbers as a slice.
func ints(list ...int) []int {
	return list
}

// dot returns the sum of the products of numbers at the same places.
func dot(a []int, b []int) int {
	sum := 0
	for i := range a {
		sum += a[i] * b[i]
	}
	return sum
}

// changed returns a copy of numbers with another one at a place.
func changed(list []int, at int, value int) []int {
	other := slices.Clone(list)
	other[at] = value
	return other
}

// extent is the memory of a slice with its spare capacity.
type extent struct {
	from, to uintptr
}

// extents returns the memory of all slices in a value.
func extents(v reflect.Value) []extent {
	var list []extent
	switch v.Kind() {
	case reflect.Interface:
		list = extents(v.Elem())
	case reflect.Struct:
		for i := range v.NumField() {
			list = append(list, extents(v.Field(i))...)
		}
	case reflect.Slice:
		if size := uintptr(v.Cap()) * v.Type().Elem().Size(); size > 0 {
			list = append(list, extent{v.Pointer(), v.Pointer() + size})
		}
		for i := range v.Len() {
			list = append(list, extents(v.Index(i))...)
		}
	}
	return list
}

// contents returns everything in a value, with the spare capacity of all slices.
func contents(v reflect.Value) string {
	switch v.Kind() {
	case reflect.Interface:
		return contents(v.Elem())
	case reflect.Struct:
		text := "{"
		for i := range v.NumField() {
			text += contents(v.Field(i)) + ";"
		}
		return text + "}"
	case reflect.Slice:
		text := "[" + strconv.Itoa(v.Len()) + ":"
		for i := range v.Cap() {
			text += contents(v.Slice(0, v.Cap()).Index(i)) + ","
		}
		return text + "]"
	}
	return fmt.Sprint(v)
}

// checkMemory calls a function twice. It fails if that changes the arguments,
// if the results differ, or if a slice of a result shares memory with one of
// the arguments, of the other results, or of the same result.
func checkMemory(t *testing.T, name string, args []any, call func() []any) {
	t.Helper()
	before := contents(reflect.ValueOf(args))
	first, second := call(), call()
	if after := contents(reflect.ValueOf(args)); after != before {
		t.Fatalf("%s changes its arguments from %s to %s", name, before, after)
	}
	if !reflect.DeepEqual(first, second) {
		t.Fatalf("%s = %v, and then %v", name, first, second)
	}
	taken := extents(reflect.ValueOf(args))
	for _, result := range slices.Concat(first, second) {
		for _, e := range extents(reflect.ValueOf(result)) {
			for _, other := range taken {
				if e.from < other.to && other.from < e.to {
					t.Fatalf("%s = %v, which shares memory", name, result)
				}
			}
			taken = append(taken, e)
		}
	}
	runtime.KeepAlive([][]any{args, first, second})
}
