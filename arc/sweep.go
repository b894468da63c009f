package arc

import (
	"cnc/api"
	"cnc/vec"
	"cnc/wide"
)

// Inside reports whether a direction belongs to the sweep.
func Inside(it api.Item, p api.Pt) bool {
	if it.Full {
		return true
	}
	first, last := Spokes(it)
	if it.Dir < 0 {
		first, last = last, first
	}
	return direction(first).passes(direction(p), direction(last))
}

// Tangent returns the direction of travel at an end.
func Tangent(it api.Item, end bool) api.Pt {
	if it.Kind != api.ItemArc {
		return difference(it.Plane, it.To, it.From)
	}
	spoke, last := Spokes(it)
	if end {
		spoke = last
	}
	return api.Pt{U: -it.Dir * spoke.W, W: it.Dir * spoke.U}
}

// Extent returns the least and the greatest coordinates.
func Extent(it api.Item) (api.Vec, api.Vec) {
	low, high := it.From, it.From
	for _, v := range append(extremes(it), it.To) {
		low = api.Vec{X: min(low.X, v.X), Y: min(low.Y, v.Y), Z: min(low.Z, v.Z)}
		high = api.Vec{X: max(high.X, v.X), Y: max(high.Y, v.Y), Z: max(high.Z, v.Z)}
	}
	return low, high
}

// extremes returns the points of an arc at which an axis of its plane is extreme.
func extremes(it api.Item) []api.Vec {
	if it.Kind != api.ItemArc {
		return nil
	}
	first, last := Spokes(it)
	center, _, _ := vec.Flat(it.Plane, it.Center)
	r, _ := wide.Sqrt(max(vec.Inner(first, first), vec.Inner(last, last)), api.Up)
	var list []api.Vec
	for _, d := range [4]api.Pt{{U: 1}, {W: 1}, {U: -1}, {W: -1}} {
		if Inside(it, d) {
			v, _ := vec.Solid(it.Plane, api.Pt{U: center.U + r*d.U, W: center.W + r*d.W}, height(it.Plane, it.From))
			list = append(list, v)
		}
	}
	return list
}
