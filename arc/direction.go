package arc

import (
	"cnc/api"
	"cnc/vec"
)

// direction is a direction from a center. Its length has no meaning: only the signs of products are asked for, so that every comparison is exact.
type direction api.Pt

// Where a counterclockwise turn meets a direction, in the order in which it gets there. The first half includes its end.
const (
	atOnce = iota
	inFirstHalf
	inSecondHalf
)

// meets returns where a counterclockwise turn from d meets e.
func (d direction) meets(e direction) int {
	cross := d.cross(e)
	switch {
	case cross < 0:
		return inSecondHalf
	case cross > 0 || vec.Inner(api.Pt(d), api.Pt(e)) < 0:
		return inFirstHalf
	}
	return atOnce
}

// passes reports whether a counterclockwise turn from d to last meets e.
func (d direction) passes(e, last direction) bool {
	where, end := d.meets(e), d.meets(last)
	// In the same half, e and last are less than a half turn apart, so that the sign of their product orders them.
	return where < end || where == end && e.cross(last) >= 0
}

// cross returns the vector product of d and e.
func (d direction) cross(e direction) int {
	return vec.Cross(api.Pt(d), api.Pt(e))
}
