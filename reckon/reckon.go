// Package reckon reckons with numbers of 64 bits, as chapter 12 tells of the operators.
package reckon

import (
	"math"

	"holdfast/api"
)

// Two reckons with two numbers, by an operator from OAdd to OGe; what is compared gives 0 or 1. False says that it is a panic.
func Two(op, a, b int) (int, bool) {
	switch op {
	case api.OAdd:
		return a + b, b >= 0 && a <= math.MaxInt64-b || b < 0 && a >= math.MinInt64-b
	case api.OSub:
		return a - b, b >= 0 && a >= math.MinInt64+b || b < 0 && a <= math.MaxInt64+b
	case api.OMul:
		return a * b, a == 0 || divides(a*b, a) && a*b/a == b
	case api.ODiv:
		if !divides(a, b) {
			return 0, false
		}
		return a / b, true
	case api.ORem:
		if !divides(a, b) {
			return 0, false
		}
		return a % b, true
	}
	return truth(holds(op, a, b)), true
}

// Negative is the negative of a number, likewise.
func Negative(a int) (int, bool) {
	return -a, a != math.MinInt64
}

// divides says whether there is a quotient.
func divides(a, b int) bool {
	return b != 0 && (a != math.MinInt64 || b != -1)
}

func holds(op, a, b int) bool {
	switch op {
	case api.OEq:
		return a == b
	case api.ONe:
		return a != b
	case api.OLt:
		return a < b
	case api.OLe:
		return a <= b
	case api.OGt:
		return a > b
	}
	return a >= b
}

func truth(holds bool) int {
	if holds {
		return 1
	}
	return 0
}
