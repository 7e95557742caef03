package run

import (
	"holdfast/api"
	"holdfast/reckon"
)

// binary reckons with two numbers; false says that there is a panic.
func binary(op, a, b int) (value, bool) {
	n, ok := reckon.Two(op, a, b)
	return number(n), ok
}

// unary reckons with one number, likewise.
func unary(op, a int) (value, bool) {
	if op == api.ONot {
		return number(1 - a), true
	}
	n, ok := reckon.Negative(a)
	return number(n), ok
}
