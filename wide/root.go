package wide

import "math/bits"

// rootOf returns the floor and the rest of the square root of the quotient of a number of two halves by n, for a quotient that is less than 2^126 and an n from 1 to 2^62.
func rootOf(high, low, n uint64) (uint64, rest) {
	top, high := high/n, high%n
	bottom, left := bits.Div64(high, low, n)
	whole := floorRoot(top, bottom)
	// The quotient exceeds whole * whole by over + left / n; over is at most 2 * whole, so that the lower halves suffice.
	over := bottom - whole*whole
	return whole, rootRest(whole, over, left, n)
}

// rootRest compares a root with whole + 1/2, whose square is whole * whole + whole + 1/4.
func rootRest(whole, over, left, n uint64) rest {
	quarter := 4 * left
	switch {
	case over == 0 && left == 0:
		return restNone
	case over < whole || over == whole && quarter < n:
		return restBelow
	case over == whole && quarter == n:
		return restHalf
	}
	return restAbove
}

// floorRoot returns the floor of the square root of a number of two halves that is less than 2^126.
func floorRoot(high, low uint64) uint64 {
	if high == 0 && low == 0 {
		return 0
	}
	length := bits.Len64(low)
	if high != 0 {
		length = 64 + bits.Len64(high)
	}
	// Newton's steps descend from a power of 2 that is not less than the root, until they have reached its floor.
	x := uint64(1) << ((length + 1) / 2)
	for {
		// The quotient fits a half because x is never less than the floor of the root; the sum may exceed it.
		quotient, _ := bits.Div64(high, low, x)
		sum, carry := bits.Add64(x, quotient, 0)
		next := carry<<63 | sum/2
		if next >= x {
			return x
		}
		x = next
	}
}
