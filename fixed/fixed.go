// Package fixed is layer 1: sums and products that don't go round: see shared/doc/01-fixed.md.
package fixed

import "math"

// Add, Sub, Mul: of both; false: it is no number. Notional: what so many at a price are worth.
func Add(a, b int64) (int64, bool) {
	// The room that b leaves is asked first: the sum itself might go round.
	if b > 0 && a > math.MaxInt64-b || b < 0 && a < math.MinInt64-b {
		return 0, false
	}
	return a + b, true
}

// Sub isn't Add of -b: of -2^63 there is no such number.
func Sub(a, b int64) (int64, bool) {
	if b > 0 && a < math.MinInt64+b || b < 0 && a > math.MaxInt64+b {
		return 0, false
	}
	return a - b, true
}

func Mul(a, b int64) (int64, bool) {
	if !fits(a, b) {
		return 0, false
	}
	return a * b, true
}

// fits asks by quotients, as the product itself might go round. Where the signs differ, -2^63 is divided by
// the number above 0, never by the other one: divided by -1 it would go round as well.
func fits(a, b int64) bool {
	switch {
	case a == 0 || b == 0:
		return true
	case a > 0 && b > 0:
		return a <= math.MaxInt64/b
	case a > 0:
		return b >= math.MinInt64/a
	case b > 0:
		return a >= math.MinInt64/b
	default:
		return a >= math.MaxInt64/b
	}
}

func Notional(price, qty int64) (int64, bool) {
	if price < 0 || qty < 0 {
		return 0, false
	}
	return Mul(price, qty)
}
