package run

import (
	"math"

	"holdfast/api"
)

// binary reckons with two numbers; false says that there is none of 64 bits.
func binary(op, a, b int) (value, bool) {
	switch op {
	case api.OAdd:
		return number(a + b), b >= 0 && a <= math.MaxInt64-b || b < 0 && a >= math.MinInt64-b
	case api.OSub:
		return number(a - b), b >= 0 && a >= math.MinInt64+b || b < 0 && a <= math.MaxInt64+b
	case api.OMul:
		return number(a * b), a == 0 || divides(a*b, a) && a*b/a == b
	case api.ODiv:
		if !divides(a, b) {
			return nil, false
		}
		return number(a / b), true
	case api.ORem:
		if !divides(a, b) {
			return nil, false
		}
		return number(a % b), true
	}
	return compared(op, a, b), true
}

// divides says whether there is a quotient.
func divides(a, b int) bool {
	return b != 0 && (a != math.MinInt64 || b != -1)
}

func compared(op, a, b int) value {
	switch op {
	case api.OEq:
		return truth(a == b)
	case api.ONe:
		return truth(a != b)
	case api.OLt:
		return truth(a < b)
	case api.OLe:
		return truth(a <= b)
	case api.OGt:
		return truth(a > b)
	}
	return truth(a >= b)
}

// unary reckons with one number, likewise.
func unary(op, a int) (value, bool) {
	if op == api.ONot {
		return number(1 - a), true
	}
	return number(-a), a != math.MinInt64
}
