package arc_test

import (
	"math"
	"testing"

	"cnc/api"
	"cnc/arc"
)

// spansInPlanes fails the test unless Extent of an arc with these spokes returns what is wanted, from low to high, in every plane, and so does that of the arc in the other direction.
func spansInPlanes(t *testing.T, full bool, first, last, low, high api.Pt) {
	t.Helper()
	for _, plane := range planes {
		for _, it := range []api.Item{around(plane, 1, first, last), around(plane, -1, last, first)} {
			it.Full = full
			spans(t, it, solid(plane, low, 0), solid(plane, high, 0))
			by := at(-5, 70, 900)
			l, h := solid(plane, low, 0), solid(plane, high, 0)
			spans(t, busy(moved(it, by)), at(l.X-5, l.Y+70, l.Z+900), at(h.X-5, h.Y+70, h.Z+900))
			// To has a height of its own.
			to, _ := flat(plane, it.To)
			it.To = solid(plane, to, 33)
			spans(t, it, solid(plane, low, 0), solid(plane, high, 33))
			it.To = solid(plane, to, -33)
			spans(t, it, solid(plane, low, -33), solid(plane, high, 0))
		}
	}
}

// P13.6: arcs that pass none, one, some and all of the directions of the axes.
func TestExtentOfArcs(t *testing.T) {
	for _, x := range []struct{ first, last, low, high api.Pt }{
		// none
		{pt(30, 10), pt(10, 30), pt(10, 10), pt(30, 30)}, {pt(-10, 30), pt(-30, 10), pt(-30, 10), pt(-10, 30)},
		{pt(-30, -10), pt(-10, -30), pt(-30, -30), pt(-10, -10)}, {pt(10, -30), pt(30, -10), pt(10, -30), pt(30, -10)}, {pt(30, 10), pt(30, 11), pt(30, 10), pt(30, 11)},
		// one each, with a radius of 31.6
		{pt(30, -10), pt(30, 10), pt(30, -10), pt(32, 10)}, {pt(10, 30), pt(-10, 30), pt(-10, 30), pt(10, 32)},
		{pt(-30, 10), pt(-30, -10), pt(-32, -10), pt(-30, 10)}, {pt(-10, -30), pt(10, -30), pt(-10, -32), pt(10, -30)},
		// two
		{pt(30, -10), pt(-10, 30), pt(-10, -10), pt(32, 32)}, {pt(10, 30), pt(-30, -10), pt(-32, -10), pt(10, 32)}, {pt(-30, 10), pt(10, -30), pt(-32, -32), pt(10, 10)}, {pt(-10, -30), pt(30, 10), pt(-10, -32), pt(32, 10)},
		// three
		{pt(30, -10), pt(-30, -10), pt(-32, -10), pt(32, 32)}, {pt(10, 30), pt(10, -30), pt(-32, -32), pt(10, 32)}, {pt(-30, 10), pt(30, 10), pt(-32, -32), pt(32, 10)}, {pt(-10, -30), pt(-10, 30), pt(-10, -32), pt(32, 32)},
		// four
		{pt(10, 30), pt(30, 10), pt(-32, -32), pt(32, 32)}, {pt(-30, 10), pt(-10, 30), pt(-32, -32), pt(32, 32)}, {pt(-10, -30), pt(-30, -10), pt(-32, -32), pt(32, 32)}, {pt(30, -10), pt(10, -30), pt(-32, -32), pt(32, 32)},
		// A spoke has the direction of an axis, so that this belongs to the sweep.
		{pt(10, 0), pt(0, 10), pt(0, 0), pt(10, 10)}, {pt(10, 0), pt(-10, 0), pt(-10, 0), pt(10, 10)}, {pt(10, 0), pt(0, -10), pt(-10, -10), pt(10, 10)}, {pt(0, -10), pt(10, 0), pt(0, -10), pt(10, 0)},
		// The longer spoke counts for both ends, whichever it is.
		{pt(10, 0), pt(0, 14), pt(0, 0), pt(14, 14)}, {pt(14, 0), pt(0, 10), pt(0, 0), pt(14, 14)}, {pt(-10, 0), pt(0, -14), pt(-14, -14), pt(0, 0)}, {pt(-10, 0), pt(8, 10), pt(-13, -13), pt(13, 10)}, {pt(8, 10), pt(-10, 0), pt(-13, 0), pt(8, 13)},
	} {
		spansInPlanes(t, false, x.first, x.last, x.low, x.high)
	}
}

// P13.6: full arcs, with lengths that are integers, just less and just more.
func TestExtentOfFullArcs(t *testing.T) {
	for _, x := range []struct {
		first api.Pt
		r     int
	}{
		{pt(10, 0), 10}, {pt(0, -8), 8}, {pt(-6, 8), 10}, {pt(10, 1), 11}, {pt(7, 7), 10}, {pt(9, -4), 10}, {pt(1000, 1), 1001}, {pt(edge/2, 0), edge / 2}, {pt(edge/2, -1), edge/2 + 1}, {pt(edge, edge), 1482911},
	} {
		spansInPlanes(t, true, x.first, x.first, pt(-x.r, -x.r), pt(x.r, x.r))
	}
	for _, plane := range planes {
		// The extent may be beyond the coordinates.
		it := moved(fullAround(plane, 1, pt(-2*edge, -2*edge)), solid(plane, pt(edge, edge), 5))
		spans(t, it, solid(plane, pt(edge-2965821, edge-2965821), 5), solid(plane, pt(edge+2965821, edge+2965821), 5))
	}
}

// P13.6: items of other kinds, whatever their other fields are.
func TestExtentOfOtherItems(t *testing.T) {
	for _, kind := range others {
		for _, plane := range append(planes, noPlanes...) {
			it := api.Item{Kind: kind, Plane: plane, From: at(100, 200, 300), To: at(101, 20, 0), Center: at(-70, 800, 900), Dir: 1}
			for range 2 {
				spans(t, it, at(100, 20, 0), at(101, 200, 300))
				spans(t, busy(it), at(100, 20, 0), at(101, 200, 300))
				it.From, it.To, it.Full, it.Dir = it.To, it.From, true, -1
			}
			spans(t, api.Item{Kind: kind, Plane: plane, From: at(edge, -edge, 7), To: at(-edge, edge, 7)}, at(-edge, -edge, 7), at(edge, edge, 7))
			spans(t, api.Item{Kind: kind, Plane: plane, From: at(5, 6, -7), To: at(5, 6, -7)}, at(5, 6, -7), at(5, 6, -7))
		}
	}
}

// P13.6
func TestExtentIsThatOfTheModel(t *testing.T) {
	r := newRandom()
	for range 40000 {
		it := r.arc()
		low, high := modelExtent(it)
		spans(t, it, low, high)
		it.Kind = others[r.IntN(len(others))]
		low, high = bounds([]api.Vec{it.From, it.To})
		spans(t, it, low, high)
	}
}

// P13.6 by geometry: an arc about the center, drawn in small steps from the longer spoke's radius, lies within the extent and nearly touches it on all sides.
func TestExtentIsThatOfTheDrawnArc(t *testing.T) {
	r := newRandom()
	for range 3000 {
		it := r.arc()
		first, last := modelSpokes(it)
		radius := max(math.Hypot(float64(first.U), float64(first.W)), math.Hypot(float64(last.U), float64(last.W)))
		from, to := math.Atan2(float64(first.W), float64(first.U)), math.Atan2(float64(last.W), float64(last.U))
		sweep := math.Mod(float64(it.Dir)*(to-from)+4*math.Pi, 2*math.Pi)
		if it.Full {
			sweep = 2 * math.Pi
		}
		const steps = 720
		lowU, highU := float64(min(first.U, last.U)), float64(max(first.U, last.U))
		lowW, highW := float64(min(first.W, last.W)), float64(max(first.W, last.W))
		for i := range steps + 1 {
			angle := from + float64(it.Dir)*sweep*float64(i)/steps
			lowU, highU = min(lowU, radius*math.Cos(angle)), max(highU, radius*math.Cos(angle))
			lowW, highW = min(lowW, radius*math.Sin(angle)), max(highW, radius*math.Sin(angle))
		}
		low, high := arc.Extent(it)
		a, _ := flat(it.Plane, low)
		b, _ := flat(it.Plane, high)
		c, _ := flat(it.Plane, it.Center)
		// A spoke may be shorter than the radius by the tolerance, and the steps miss the extreme points by a little.
		slack := 5 + radius/10000
		for _, x := range [][2]float64{{float64(a.U - c.U), lowU}, {float64(b.U - c.U), highU}, {float64(a.W - c.W), lowW}, {float64(b.W - c.W), highW}} {
			if math.Abs(x[0]-x[1]) > slack {
				t.Errorf("Extent(%+v) = %v, %v, but the arc reaches to %g, %g and %g, %g from the center", it, low, high, lowU, lowW, highU, highW)
				break
			}
		}
	}
}
