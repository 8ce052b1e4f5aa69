// Package fix is layer 1: held arithmetic on micro-units, and exact sums. See shared/doc/01-fix.md.
package fix

import (
	"capstan/api"
)

// Add answers a plus b, held.
func Add(a, b int64) int64 {
	return hold(plus(widen(a), widen(b)))
}

// Sub answers a less b, held.
func Sub(a, b int64) int64 {
	return hold(minus(widen(a), widen(b)))
}

// Neg answers minus a, held.
func Neg(a int64) int64 {
	return Sub(0, a)
}

// Abs answers the size of a, held.
func Abs(a int64) int64 {
	if a < 0 {
		return Neg(a)
	}
	return a
}

// Mul answers the product of a and b in micro-units, rounded down, held.
func Mul(a, b int64) int64 {
	return hold(over(times(a, b), api.One))
}

// Div answers the quotient of a and b in micro-units, rounded down, held; or false, if b is 0.
func Div(a, b int64) (int64, bool) {
	if b == 0 {
		return 0, false
	}
	return hold(over(times(a, api.One), b)), true
}

// Ceil answers the least multiple of One that is at least a, held.
func Ceil(a int64) int64 {
	n := a / api.One
	if a%api.One > 0 { // the quotient of Go is cut toward 0, which is up only below 0
		n++
	}
	return Whole(n)
}

// Floor answers the greatest multiple of One that is at most a, held.
func Floor(a int64) int64 {
	return Whole(wholes(a))
}

// Scale answers a times num, divided by den, rounded down, held; or 0, if num is below 0 or den below 1.
func Scale(a, num, den int64) int64 {
	if num < 0 || den < 1 {
		return 0
	}
	return hold(over(times(a, num), den))
}

// Whole answers n in micro-units, held.
func Whole(n int64) int64 {
	return hold(times(n, api.One))
}

// Count answers how many whole ones a asks for, rounded up. It asks Ceil as it is held, so
// that it can't answer a count whose micro-units are no int64.
func Count(a int64) int64 {
	return wholes(Ceil(a))
}

// wholes answers the greatest whole number that is at most a micro-units.
func wholes(a int64) int64 {
	n := a / api.One
	if a%api.One < 0 { // the quotient of Go is cut toward 0, which is down only above 0
		n--
	}
	return n
}
