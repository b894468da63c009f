package wide

import (
	"math"

	"cnc/api"
)

// rest tells where a number lies between its floor and the next integer. That is all that rounding has to know.
type rest int

const (
	restNone rest = iota // the number is an integer
	restBelow
	restHalf
	restAbove
)

// restOf returns the rest of a quotient whose division left something of its divisor.
func restOf(left, divisor uint64) rest {
	other := divisor - left
	switch {
	case left == 0:
		return restNone
	case left < other:
		return restBelow
	case left == other:
		return restHalf
	}
	return restAbove
}

// round returns the number whose absolute value is whole and a rest, rounded by mode, and true, or 0 and false if there is no such mode or no such int.
func round(whole uint64, part rest, negative bool, mode int) (int, bool) {
	away := false
	switch mode {
	case api.Down:
		away = negative && part != restNone
	case api.Up:
		away = !negative && part != restNone
	case api.Near:
		away = part == restAbove || part == restHalf && !negative
	default:
		return 0, false
	}
	greatest := uint64(math.MaxInt)
	if negative {
		greatest++
	}
	if whole > greatest || away && whole == greatest {
		return 0, false
	}
	if away {
		whole++
	}
	if negative {
		return int(-whole), true
	}
	return int(whole), true
}
