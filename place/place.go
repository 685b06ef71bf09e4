// Package place is layer 1: see shared/doc/01-place.md.
package place

import (
	"math"

	"gallipot/api"
)

// May tells whether c may be: P1.1.
func May(c complex128) bool {
	return whole(real(c)) && whole(imag(c))
}

// Far tells how far a and b are apart, squared: P1.1.
func Far(a, b complex128) int {
	if !May(a) || !May(b) {
		return -1
	}
	// Parts that may be are small and whole, so that the difference is exact.
	d := a - b
	x, y := int(real(d)), int(imag(d))
	return x*x + y*y
}

// Near tells whether a and b are at most n apart, squared: P1.1.
func Near(a, b complex128, n int) bool {
	far := Far(a, b)
	// Beside a negative n, the -1 of places that may not be would pass for a distance.
	return far != -1 && far <= n
}

// whole tells whether x is a whole number from -MaxFar to MaxFar.
func whole(x float64) bool {
	// What is no number fails each comparison, and infinities the first two.
	return x >= -api.MaxFar && x <= api.MaxFar && x == math.Trunc(x)
}
