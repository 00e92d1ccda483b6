package impl

// MaxNum is the largest numerator.
const MaxNum = 100000000000

// MaxDen is the largest denominator.
const MaxDen = 10000000

// Rat is a rational number in lowest terms.
type Rat struct {
	Num int
	Den int
}

// ValidRat reports whether a rational number is valid.
func ValidRat(a Rat) bool {
	return a.valid()
}

// MakeRat returns the quotient of two numbers.
func MakeRat(num int, den int) (Rat, bool) {
	if !inRange(num, -MaxNum, MaxNum) || !inRange(den, -MaxNum, MaxNum) || den == 0 {
		return Rat{}, false
	}
	return lowest(num, den).checked()
}

// AddRat returns the sum of two rational numbers.
func AddRat(a Rat, b Rat) (Rat, bool) {
	if !a.valid() || !b.valid() {
		return Rat{}, false
	}
	// At most twice MaxNum*MaxDen, so that nothing wraps around.
	return lowest(a.Num*b.Den+b.Num*a.Den, a.Den*b.Den).checked()
}

// MulRat returns the product of two rational numbers.
func MulRat(a Rat, b Rat) (Rat, bool) {
	if !a.valid() || !b.valid() {
		return Rat{}, false
	}
	// With exchanged denominators nothing is left to cancel in the product, so
	// that a numerator that is too large now is too large for good.
	left := lowest(a.Num, b.Den)
	right := lowest(b.Num, a.Den)
	if left.Num != 0 && abs(right.Num) > MaxNum/abs(left.Num) {
		return Rat{}, false
	}
	return Rat{left.Num * right.Num, left.Den * right.Den}.checked()
}

// CompareRat compares two rational numbers.
func CompareRat(a Rat, b Rat) int {
	switch {
	case !a.valid() || !b.valid():
		return 2
	case a == b:
		return 0
	case a.Num*b.Den < b.Num*a.Den:
		return -1
	}
	return 1
}

// FloorRat returns the greatest integer that is at most a rational number.
func FloorRat(a Rat) int {
	if !a.valid() {
		return 0
	}
	return floorDiv(a.Num, a.Den)
}

// valid tests the range before abs, which the least int does not have.
func (a Rat) valid() bool {
	return inRange(a.Den, 1, MaxDen) && inRange(a.Num, -MaxNum, MaxNum) && divisor(abs(a.Num), a.Den) == 1
}

// checked returns the number and true, or the zero value and false if it is not valid.
func (a Rat) checked() (Rat, bool) {
	if !a.valid() {
		return Rat{}, false
	}
	return a, true
}

// lowest returns num/den in lowest terms with a positive denominator; den is not 0.
func lowest(num int, den int) Rat {
	d := divisor(abs(num), abs(den))
	if den < 0 {
		d = -d
	}
	return Rat{num / d, den / d}
}

// divisor returns the greatest common divisor of two numbers that are not
// negative; that of 0 and another number is the other number.
func divisor(a int, b int) int {
	for b != 0 {
		a, b = b, a%b
	}
	return a
}

// floorDiv returns a/b rounded down; b is positive.
func floorDiv(a int, b int) int {
	floor := a / b
	// Go rounds quotients toward 0.
	if a%b < 0 {
		floor--
	}
	return floor
}

// abs returns a number without its sign.
func abs(a int) int {
	if a < 0 {
		return -a
	}
	return a
}

// inRange reports whether a number is in low..high.
func inRange(a int, low int, high int) bool {
	return low <= a && a <= high
}
