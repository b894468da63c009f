package eval

import (
	"cnc/api"
	"cnc/cordic"
	"cnc/fixed"
	"cnc/wide"
)

// maxPointed is the greatest absolute value of a coordinate that cordic.Angle accepts.
const maxPointed = 1 << 40

// scaled returns a sine or a cosine, which is a multiple of 1 / api.One, as a number.
func scaled(n int) (int, api.Errno) {
	return quotient(n, api.One)
}

// tangent returns the tangent of the angle that has a sine and a cosine.
func tangent(sine, cosine int) (int, api.Errno) {
	if cosine == 0 {
		return 0, api.ErrZero
	}
	return quotient(sine, cosine)
}

// direction returns the direction of the point (b, a) in degrees.
func direction(a, b int) (int, api.Errno) {
	if a == 0 && b == 0 {
		return 0, api.ErrZero
	}
	for max(a, -a, b, -b) > maxPointed {
		// A shift gives the floor of the half, which a division does not.
		a, b = a>>1, b>>1
	}
	angle, _ := cordic.Angle(b, a)
	return angle, api.OK
}

// quotient returns a / b as a number.
func quotient(a, b int) (int, api.Errno) {
	n, ok := wide.MulDiv(a, api.Million, b, api.Near)
	if !ok || !fixed.Valid(n) {
		return 0, api.ErrRange
	}
	return n, api.OK
}
