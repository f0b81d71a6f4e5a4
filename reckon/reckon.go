// Package reckon: Add to Less of two numbers. What programs mean and what the machine does must never part here, so both ask this package.
package reckon

import "bellwright/api"

// IsOp tells whether an operation is one of Add to Less.
func IsOp(op int) bool {
	return op >= api.Add && op <= api.Less
}

// Of tells what comes of two numbers, which go round at 64 bits; false, if it is Div or Rem by 0, or none of Add to Less.
func Of(op, a, b int) (int, bool) {
	switch op {
	case api.Add:
		return a + b, true
	case api.Sub:
		return a - b, true
	case api.Mul:
		return a * b, true
	case api.Eq:
		return Truth(a == b), true
	case api.Less:
		return Truth(a < b), true
	}
	return parted(op, a, b)
}

// Truth tells 1 or 0.
func Truth(is bool) int {
	if is {
		return 1
	}
	return 0
}

func parted(op, a, b int) (int, bool) {
	switch {
	case b == 0:
		return 0, false
	case op == api.Div:
		return a / b, true
	case op == api.Rem:
		return a % b, true
	}
	return 0, false
}
