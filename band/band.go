// Package band is layer 2: how far a price may be from another one: see shared/doc/02-band.md.
package band

import "stopgate/api"

// Right: is it a fraction? Collar: the least and the greatest price; Within: is a price so? Same: the same fraction?
func Right(fraction float64) bool {
	// Not a number isn't 0 or above it, as all comparisons with it fail; -0 is, as it equals 0.
	return fraction >= 0
}

func Collar(price int64, fraction float64) (int64, int64, bool) {
	if !Right(fraction) || price < 1 || price > api.MaxPrice {
		return 0, 0, false
	}
	d := reach(price, fraction)
	return max(price-d, 1), min(price+d, api.MaxPrice), true
}

// reach is the whole part of price times fraction, MaxPrice at most. The product is held against that while it
// is a float64: the language doesn't say what int64 makes of one that is infinite or too great.
func reach(price int64, fraction float64) int64 {
	product := float64(price) * fraction
	if product > api.MaxPrice {
		return api.MaxPrice
	}
	return int64(product)
}

func Within(price, at int64, fraction float64) bool {
	lo, hi, ok := Collar(price, fraction)
	return ok && lo <= at && at <= hi
}

func Same(a, b float64) bool {
	// By == alone not a number would be the same as nothing, not even as itself.
	if !Right(a) || !Right(b) {
		return Right(a) == Right(b)
	}
	return a == b
}
