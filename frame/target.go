package frame

import (
	"cnc/api"
	"cnc/cordic"
	"cnc/fixed"
	"cnc/modal"
	"cnc/vec"
)

// Codes of the modal state.
const (
	incremental = 91
	polar       = 16
)

// noAxis stands for the axis of the angle if there is no angle.
const noAxis = -1

// word is a word of a block; it is zero if the block does not have it.
type word struct {
	there bool
	n     int
}

// Target returns the program position that a block leads to.
func Target(m api.Modal, l []api.Value, p api.Vec) (api.Vec, bool, api.Errno) {
	if !vec.Within(p) {
		return api.Vec{}, false, api.ErrArg
	}
	words, err := straight(m, l)
	if err != api.OK {
		return api.Vec{}, false, err
	}
	x, y, z := words[0], words[1], words[2]
	target, err := coordinates(api.Vec{
		X: x.from(p.X, m.Distance),
		Y: y.from(p.Y, m.Distance),
		Z: z.from(p.Z, m.Distance),
	})
	if err != api.OK {
		return api.Vec{}, false, err
	}
	return target, x.there || y.there || z.there, api.OK
}

// straight returns the words X, Y and Z of a block in micrometers, with polar coordinates replaced by those that mean the same.
func straight(m api.Modal, l []api.Value) ([3]word, api.Errno) {
	if m.Polar != polar {
		return read(l, m.Units, noAxis)
	}
	axes, _, _ := vec.Flat(m.Plane, api.Vec{X: 0, Y: 1, Z: 2})
	words, err := read(l, m.Units, axes.W)
	if err != api.OK {
		return [3]word{}, err
	}
	radius, angle := &words[axes.U], &words[axes.W]
	if radius.there != angle.there {
		return [3]word{}, api.ErrMissing
	}
	radius.n, angle.n, _ = cordic.Rotate(radius.n, 0, angle.n)
	return words, api.OK
}

// read returns the words X, Y and Z of a block in micrometers, except for the word of one axis, which remains as it is.
func read(l []api.Value, units, angle int) ([3]word, api.Errno) {
	var words [3]word
	for axis, letter := range [3]int{'X', 'Y', 'Z'} {
		n, ok := modal.Find(l, letter)
		if !ok {
			continue
		}
		if axis != angle {
			var err api.Errno
			if n, err = fixed.Length(n, units); err != api.OK {
				return [3]word{}, err
			}
		}
		words[axis] = word{true, n}
	}
	return words, api.OK
}

// from returns the coordinate that a word leads to from another one.
func (w word) from(at, distance int) int {
	switch {
	case !w.there:
		return at
	case distance == incremental:
		return at + w.n
	}
	return w.n
}
