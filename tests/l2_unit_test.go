package tests

import (
	"testing"

	"loop.example/integerplanner/impl"
)

func unit(mass int, distance int, time int, money int) impl.Unit {
	return impl.Unit{Mass: mass, Distance: distance, Time: time, Money: money}
}

// allUnits returns all valid units.
func allUnits() []impl.Unit {
	const span = 2*impl.MaxPower + 1
	var list []impl.Unit
	for n := range power(span, 4) {
		list = append(list, unit(n%span-impl.MaxPower, n/span%span-impl.MaxPower, n/span/span%span-impl.MaxPower, n/span/span/span-impl.MaxPower))
	}
	return list
}

// someUnits returns valid units, many of them at the limits.
func someUnits() []impl.Unit {
	var list []impl.Unit
	for i, u := range allUnits() {
		if i%61 == 0 {
			list = append(list, u)
		}
	}
	const m = impl.MaxPower
	return append(list, unit(0, 0, 0, 0), unit(1, 0, 0, 0), unit(0, 1, 0, 0), unit(0, 0, 1, 0), unit(0, 0, 0, 1), unit(-1, 0, 0, 0), unit(0, -1, 0, 0), unit(0, 0, -1, 0), unit(0, 0, 0, -1), unit(m, m, m, m), unit(-m, -m, -m, -m), unit(m, -m, m, -m), unit(1, 2, -1, 0))
}

// invalidUnits returns units that are not valid.
func invalidUnits() []impl.Unit {
	var list []impl.Unit
	for _, e := range []int{impl.MaxPower + 1, -impl.MaxPower - 1, greatestInt, leastInt} {
		list = append(list, unit(e, 0, 0, 0), unit(0, e, 0, 0), unit(0, 0, e, 0), unit(0, 0, 0, e), unit(1, 1, e, e))
	}
	return list
}

func unitValid(u impl.Unit) bool {
	const m = impl.MaxPower
	return within(u.Mass, -m, m) && within(u.Distance, -m, m) && within(u.Time, -m, m) && within(u.Money, -m, m)
}

// product returns a unit times a power of another one.
func product(a impl.Unit, b impl.Unit, n int) impl.Unit {
	return unit(a.Mass+n*b.Mass, a.Distance+n*b.Distance, a.Time+n*b.Time, a.Money+n*b.Money)
}

func TestProductsAndQuotientsOfUnits(t *testing.T) {
	for _, a := range someUnits() {
		for _, b := range someUnits() {
			want := product(a, b, 1)
			ok := unitValid(want)
			if !ok {
				want = impl.Unit{}
			}
			if got, gotOk := impl.MulUnit(a, b); got != want || gotOk != ok {
				t.Errorf("MulUnit(%v, %v) = %v, %t", a, b, got, gotOk)
			}
			want = product(a, b, -1)
			ok = unitValid(want)
			if !ok {
				want = impl.Unit{}
			}
			if got, gotOk := impl.DivUnit(a, b); got != want || gotOk != ok {
				t.Errorf("DivUnit(%v, %v) = %v, %t", a, b, got, gotOk)
			}
		}
	}
}

func TestUnitsAtLimits(t *testing.T) {
	const m = impl.MaxPower
	for i := range 4 {
		base := []impl.Unit{unit(1, 0, 0, 0), unit(0, 1, 0, 0), unit(0, 0, 1, 0), unit(0, 0, 0, 1)}[i]
		top, below := product(impl.Unit{}, base, m), product(impl.Unit{}, base, m-1)
		if got, ok := impl.MulUnit(below, base); !ok || got != top {
			t.Errorf("MulUnit(%v, %v) = %v, %t", below, base, got, ok)
		}
		if got, ok := impl.MulUnit(top, base); ok || got != (impl.Unit{}) {
			t.Errorf("MulUnit(%v, %v) = %v, %t", top, base, got, ok)
		}
		bottom := product(impl.Unit{}, base, -m)
		if got, ok := impl.DivUnit(impl.Unit{}, top); !ok || got != bottom {
			t.Errorf("DivUnit(1, %v) = %v, %t", top, got, ok)
		}
		if got, ok := impl.DivUnit(bottom, base); ok || got != (impl.Unit{}) {
			t.Errorf("DivUnit(%v, %v) = %v, %t", bottom, base, got, ok)
		}
	}
}

func TestInvalidUnits(t *testing.T) {
	for _, bad := range invalidUnits() {
		// Products and quotients of invalid units may be in range.
		for _, a := range append(invalidUnits(), unit(0, 0, 0, 0), unit(-4, -4, -4, -4), unit(4, 4, 4, 4)) {
			for _, c := range [][2]impl.Unit{{a, bad}, {bad, a}} {
				if got, ok := impl.MulUnit(c[0], c[1]); ok || got != (impl.Unit{}) {
					t.Errorf("MulUnit(%v, %v) = %v, %t", c[0], c[1], got, ok)
				}
				if got, ok := impl.DivUnit(c[0], c[1]); ok || got != (impl.Unit{}) {
					t.Errorf("DivUnit(%v, %v) = %v, %t", c[0], c[1], got, ok)
				}
			}
		}
		if got := impl.FormatUnit(bad); got != "" {
			t.Errorf("FormatUnit(%v) = %q", bad, got)
		}
	}
}

func TestP12UnitsFormAGroup(t *testing.T) {
	for _, a := range someUnits() {
		for _, b := range someUnits() {
			ab, ok := impl.MulUnit(a, b)
			ba, otherOk := impl.MulUnit(b, a)
			if ab != ba || ok != otherOk {
				t.Errorf("MulUnit(%v, %v) = %v, but %v in the other order", a, b, ab, ba)
			}
			if back, backOk := impl.DivUnit(ab, b); ok && (!backOk || back != a) {
				t.Errorf("%v times and divided by %v is %v", a, b, back)
			}
		}
	}
}

func TestP13AUnitDividedByItselfIsOne(t *testing.T) {
	for _, a := range allUnits() {
		if one, ok := impl.DivUnit(a, a); !ok || one != (impl.Unit{}) {
			t.Errorf("DivUnit(%v, %v) = %v, %t", a, a, one, ok)
		}
	}
	for _, a := range someUnits() {
		for _, b := range someUnits() {
			quotient, ok := impl.DivUnit(a, b)
			if back, backOk := impl.MulUnit(quotient, b); ok && (!backOk || back != a) {
				t.Errorf("%v divided by and times %v is %v", a, b, back)
			}
		}
	}
}

func TestTextsOfUnits(t *testing.T) {
	for _, c := range []struct {
		u    impl.Unit
		text string
	}{
		{unit(0, 0, 0, 0), "1"}, {unit(1, 0, 0, 0), "kg"}, {unit(0, 1, 0, 0), "km"}, {unit(0, 0, 1, 0), "h"},
		{unit(0, 0, 0, 1), "eur"}, {unit(1, 2, -1, 0), "kg*km^2/h"}, {unit(0, 0, -1, 0), "1/h"},
		{unit(-1, -2, -3, -4), "1/kg/km^2/h^3/eur^4"}, {unit(4, 3, 2, 1), "kg^4*km^3*h^2*eur"},
		{unit(-1, 0, 0, 1), "eur/kg"}, {unit(-2, 1, -1, 2), "km*eur^2/kg^2/h"}, {unit(-4, 4, -4, 4), "km^4*eur^4/kg^4/h^4"},
	} {
		if s := impl.FormatUnit(c.u); s != c.text {
			t.Errorf("FormatUnit(%v) = %q, want %q", c.u, s, c.text)
		}
		if u, ok := impl.ParseUnit(c.text); !ok || u != c.u {
			t.Errorf("ParseUnit(%q) = %v, %t, want %v", c.text, u, ok, c.u)
		}
	}
}

func TestP14TextsOfUnitsLoseNothing(t *testing.T) {
	seen := map[string]impl.Unit{}
	for _, u := range allUnits() {
		s := impl.FormatUnit(u)
		if back, ok := impl.ParseUnit(s); !ok || back != u {
			t.Errorf("ParseUnit(%q) = %v, %t, want %v", s, back, ok, u)
		}
		if other, ok := seen[s]; ok {
			t.Errorf("%v and %v have the text %q", other, u, s)
		}
		seen[s] = u
	}
}

func TestTextsThatAreAlmostUnits(t *testing.T) {
	for _, s := range []string{
		"", " ", "1 ", " 1", "0", "2", "01", "1^1", "1*1", "-1", "1/1", "kg/1", "1*kg", "kg*1", "km*kg", "eur*h",
		"kg^1", "kg^0", "kg^5", "kg^-1", "kg^+2", "kg^02", "kg^", "kg^x", "kg^2^2", "kg^ 2", "kg^2.0", "kg^99999999999999999999",
		"kg^9223372036854775807", "1/kg^-9223372036854775808", "1/kg^9223372036854775808", "1/kg^5", "1/kg^1", "1/kg^0", "1/kg^-2",
		"kg*kg", "h/h", "h^2/h", "kg/kg^2", "1/h/h", "1/h*kg", "kg/h*eur", "1/eur/h", "/h", "kg/", "kg//h", "1/", "kg*", "*kg", "kg**km", "kg /h", "kg* km",
		"KG", "Kg", "kgs", "kmh", "kgkm", "EUR", "k", "g", "e", "m", "t", "hr", "kg\x00", "kg\n", "kg/h\n", "\u2074", "kg\u00b2", "kg^\u0662", "kg-h", "kg·km",
	} {
		if u, ok := impl.ParseUnit(s); ok || u != (impl.Unit{}) {
			t.Errorf("ParseUnit(%q) = %v, %t", s, u, ok)
		}
	}
}

func TestP15EveryUnitHasOneText(t *testing.T) {
	accepted := 0
	for _, u := range someUnits() {
		for _, s := range nearTexts(impl.FormatUnit(u), "kgmheur*/^0123456 -+") {
			v, ok := impl.ParseUnit(s)
			if ok && impl.FormatUnit(v) != s {
				t.Errorf("ParseUnit(%q) = %v, whose text is %q", s, v, impl.FormatUnit(v))
			}
			if !ok && v != (impl.Unit{}) {
				t.Errorf("ParseUnit(%q) = %v, false", s, v)
			}
			if ok {
				accepted++
			}
		}
	}
	if accepted == 0 {
		t.Error("no text is accepted")
	}
}

func TestP16TheFirstWrongTermIsTold(t *testing.T) {
	euro, kilo, one := unit(0, 0, 0, 1), unit(1, 0, 0, 0), unit(0, 0, 0, 0)
	perKilo := unit(-1, 0, 0, 1)
	top, bottom := unit(4, 0, 0, 0), unit(-4, 0, 0, 0)
	for _, c := range []struct {
		coefs, vars []impl.Unit
		bound       impl.Unit
		want        int
	}{
		{nil, nil, euro, -1},
		{[]impl.Unit{}, nil, one, -1},
		{[]impl.Unit{perKilo, euro}, []impl.Unit{kilo, one}, euro, -1},
		{[]impl.Unit{perKilo, euro}, []impl.Unit{kilo, kilo}, euro, 1},
		{[]impl.Unit{perKilo, euro, euro}, []impl.Unit{one, kilo, one}, euro, 0},
		{[]impl.Unit{euro, perKilo, perKilo, one}, []impl.Unit{one, kilo, one, one}, euro, 2},
		{[]impl.Unit{top, bottom}, []impl.Unit{bottom, top}, one, -1},
		{[]impl.Unit{kilo, kilo}, []impl.Unit{one, top}, kilo, 1},
		{[]impl.Unit{kilo}, []impl.Unit{top}, one, 0},
		{[]impl.Unit{one, one, one, one, one, one, one}, []impl.Unit{kilo, kilo, kilo, kilo, kilo, kilo, euro}, kilo, 6},
	} {
		if got := impl.CheckUnits(c.coefs, c.vars, c.bound); got != c.want {
			t.Errorf("CheckUnits(%v, %v, %v) = %d, want %d", c.coefs, c.vars, c.bound, got, c.want)
		}
	}
}

func TestP16AllTermsBeforeAreRight(t *testing.T) {
	units := someUnits()
	told := map[int]int{}
	for i := range units {
		// The right variable for each coefficient, and from number i%6 on what comes.
		coefs := append([]impl.Unit{}, units[i], units[(i+1)%len(units)], units[(i*5+2)%len(units)], units[(i*7+3)%len(units)], units[i])
		bound := units[(i*11+7)%len(units)]
		var vars []impl.Unit
		want := -1
		for k, c := range coefs {
			v := product(bound, c, -1)
			if !unitValid(v) || k >= i%6 {
				v = units[(i+k)%len(units)]
			}
			vars = append(vars, v)
			if want < 0 && product(c, v, 1) != bound {
				want = k
			}
		}
		if got := impl.CheckUnits(coefs, vars, bound); got != want {
			t.Errorf("CheckUnits(%v, %v, %v) = %d, want %d", coefs, vars, bound, got, want)
		}
		told[want]++
	}
	if len(told) < 4 {
		t.Errorf("too few different results: %v", told)
	}
}

func TestCheckUnitsOfInvalidArguments(t *testing.T) {
	one, kilo := unit(0, 0, 0, 0), unit(1, 0, 0, 0)
	for _, c := range []struct{ coefs, vars []impl.Unit }{
		{[]impl.Unit{one}, nil}, {nil, []impl.Unit{one}}, {[]impl.Unit{kilo, one}, []impl.Unit{one}}, {[]impl.Unit{one}, []impl.Unit{one, one}},
	} {
		if got := impl.CheckUnits(c.coefs, c.vars, one); got != -2 {
			t.Errorf("CheckUnits(%v, %v, 1) = %d", c.coefs, c.vars, got)
		}
	}
	for _, bad := range invalidUnits() {
		// A wrong term before the invalid unit does not hide it.
		good := []impl.Unit{kilo, one, one}
		wrong := []impl.Unit{kilo, one, bad}
		if impl.CheckUnits(wrong, good, one) != -2 || impl.CheckUnits(good, wrong, one) != -2 || impl.CheckUnits(good, good, bad) != -2 || impl.CheckUnits(nil, nil, bad) != -2 {
			t.Errorf("CheckUnits accepts %v", bad)
		}
	}
}

func TestUnitsAreNotChanged(t *testing.T) {
	coefs, vars := []impl.Unit{unit(1, 0, 0, 0), unit(0, 1, 0, 0)}, []impl.Unit{unit(0, 1, 0, 0), unit(0, 0, 1, 0)}
	impl.CheckUnits(coefs, vars, unit(1, 1, 0, 0))
	if coefs[0] != unit(1, 0, 0, 0) || coefs[1] != unit(0, 1, 0, 0) || vars[0] != unit(0, 1, 0, 0) || vars[1] != unit(0, 0, 1, 0) {
		t.Errorf("CheckUnits leaves %v and %v", coefs, vars)
	}
}
