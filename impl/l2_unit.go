package impl

import (
	"slices"
	"strconv"
	"strings"
)

// MaxPower is the largest exponent of a base unit.
const MaxPower = 4

// baseCount is the number of base units.
const baseCount = 4

// baseTexts has the texts of the base units in the order of the fields of Unit.
var baseTexts = [baseCount]string{"kg", "km", "h", "eur"}

// Unit is a product of powers of kilograms, kilometers, hours and euros.
type Unit struct {
	Mass     int
	Distance int
	Time     int
	Money    int
}

// MulUnit returns the product of two units.
func MulUnit(a Unit, b Unit) (Unit, bool) {
	return combineUnits(a, b, 1)
}

// DivUnit returns the quotient of two units.
func DivUnit(a Unit, b Unit) (Unit, bool) {
	return combineUnits(a, b, -1)
}

// FormatUnit returns the text of a unit.
func FormatUnit(u Unit) string {
	if !u.valid() {
		return ""
	}
	var over []string
	under := ""
	for i, power := range u.powers() {
		switch {
		case power > 0:
			over = append(over, formatPower(i, power))
		case power < 0:
			under += "/" + formatPower(i, -power)
		}
	}
	if len(over) == 0 {
		return "1" + under
	}
	return strings.Join(over, "*") + under
}

// ParseUnit returns the unit with a text.
func ParseUnit(s string) (Unit, bool) {
	parts := strings.Split(s, "/")
	over, under := strings.Split(parts[0], "*"), parts[1:]
	if parts[0] == "1" {
		over = nil
	}
	var powers [baseCount]int
	for n, text := range slices.Concat(over, under) {
		i, power, ok := parsePower(text)
		if !ok {
			return Unit{}, false
		}
		if n >= len(over) {
			power = -power
		}
		powers[i] = power
	}
	u := unitOf(powers)
	// A unit has only one text: this rejects any other order or spelling,
	// base units that occur twice, and exponents that are too large.
	if FormatUnit(u) != s {
		return Unit{}, false
	}
	return u, true
}

// CheckUnits returns the first term of a row whose unit is wrong.
func CheckUnits(coefs []Unit, vars []Unit, bound Unit) int {
	if len(coefs) != len(vars) || !allValid(coefs) || !allValid(vars) || !bound.valid() {
		return -2
	}
	for i, coef := range coefs {
		u, ok := MulUnit(coef, vars[i])
		if !ok || u != bound {
			return i
		}
	}
	return -1
}

// valid reports whether all exponents of a unit are allowed.
func (u Unit) valid() bool {
	for _, power := range u.powers() {
		if !inRange(power, -MaxPower, MaxPower) {
			return false
		}
	}
	return true
}

// powers returns the exponents of a unit in the order of baseTexts.
func (u Unit) powers() [baseCount]int {
	return [baseCount]int{u.Mass, u.Distance, u.Time, u.Money}
}

// unitOf returns the unit with exponents in the order of baseTexts.
func unitOf(powers [baseCount]int) Unit {
	return Unit{Mass: powers[0], Distance: powers[1], Time: powers[2], Money: powers[3]}
}

// allValid reports whether all units of a list are valid.
func allValid(list []Unit) bool {
	for _, u := range list {
		if !u.valid() {
			return false
		}
	}
	return true
}

// combineUnits returns the product of a unit and a power of another one.
func combineUnits(a Unit, b Unit, power int) (Unit, bool) {
	if !a.valid() || !b.valid() {
		return Unit{}, false
	}
	u := unitOf(addScaled(a.powers(), b.powers(), power))
	if !u.valid() {
		return Unit{}, false
	}
	return u, true
}

// addScaled returns the sums of the numbers of a and factor times those of b, place by place.
func addScaled[N ~int](a [baseCount]N, b [baseCount]N, factor N) [baseCount]N {
	for i, n := range b {
		a[i] += factor * n
	}
	return a
}

// formatPower returns the text of a base unit with a positive exponent.
func formatPower(base int, power int) string {
	if power == 1 {
		return baseTexts[base]
	}
	return baseTexts[base] + "^" + strconv.Itoa(power)
}

// parsePower returns the base unit and the exponent of a text, and true; false
// if there is no such base unit or no exponent that is a number.
func parsePower(text string) (int, int, bool) {
	name, digits, raised := strings.Cut(text, "^")
	power := 1
	if raised {
		n, err := strconv.Atoi(digits)
		if err != nil {
			return 0, 0, false
		}
		power = n
	}
	for i := range baseCount {
		if baseTexts[i] == name {
			return i, power, true
		}
	}
	return 0, 0, false
}
