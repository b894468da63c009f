// Package wide is layer 1: exact products, quotients and roots. See shared/doc/01-wide.md.
package wide

import (
	"cmp"
	"math/bits"
)

// The arguments of Over are bounded such that the square of their product fits 128 bits.
const (
	maxFactor = 1 << 31
	maxSquare = 1 << 62
)

// Cmp returns -1, 0 or 1 if a * b is less than, equal to or greater than c * d.
func Cmp(a, b, c, d int) int {
	high, low := product(a, b)
	otherHigh, otherLow := product(c, d)
	return cmp.Or(cmp.Compare(high, otherHigh), cmp.Compare(low, otherLow))
}

// MulDiv returns a * b / c, rounded by mode, and true. It returns 0 and false if c is 0, if there is no such mode, or if the rounded result is not in the range of int.
func MulDiv(a, b, c, mode int) (int, bool) {
	divisor := size(c)
	high, low := bits.Mul64(size(a), size(b))
	// Div64 panics for such a quotient, which has more than 64 bits or, if c is 0, does not exist.
	if high >= divisor {
		return 0, false
	}
	whole, left := bits.Div64(high, low, divisor)
	negative := (a < 0) != (b < 0) != (c < 0)
	return round(whole, restOf(left, divisor), negative, mode)
}

// Sqrt returns the square root of n, rounded by mode, and true. It returns 0 and false if n is negative or there is no such mode.
func Sqrt(n, mode int) (int, bool) {
	return Root(n, 1, mode)
}

// Root returns the square root of a * b, rounded by mode, and true. It returns 0 and false if a or b is negative or there is no such mode.
func Root(a, b, mode int) (int, bool) {
	if a < 0 || b < 0 {
		return 0, false
	}
	high, low := bits.Mul64(size(a), size(b))
	whole, part := rootOf(high, low, 1)
	return round(whole, part, false, mode)
}

// Over returns a * b divided by the square root of n, rounded by mode, and true. It returns 0 and false if the absolute value of a or b is greater than 2^31, if n is not in the range 1 to 2^62, or if there is no such mode.
func Over(a, b, n, mode int) (int, bool) {
	if size(a) > maxFactor || size(b) > maxFactor || n < 1 || n > maxSquare {
		return 0, false
	}
	// One root of a quotient is exact where a quotient by a rounded root would not be.
	factor := size(a) * size(b)
	high, low := bits.Mul64(factor, factor)
	whole, part := rootOf(high, low, size(n))
	return round(whole, part, (a < 0) != (b < 0), mode)
}

// size returns the absolute value of x, which for the least int is no int.
func size(x int) uint64 {
	if x < 0 {
		return -uint64(x)
	}
	return uint64(x)
}

// product returns the two halves of a * b, in two's complement.
func product(a, b int) (int64, uint64) {
	high, low := bits.Mul64(size(a), size(b))
	if (a < 0) != (b < 0) {
		var carry uint64
		low, carry = bits.Add64(^low, 1, 0)
		high, _ = bits.Add64(^high, 0, carry)
	}
	return int64(high), low
}
