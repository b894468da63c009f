package arc_test

import (
	"testing"

	"cnc/api"
	"cnc/arc"
)

// compass are directions around the center, counterclockwise, each half a quarter from the next.
var compass = []api.Pt{pt(1, 0), pt(2, 2), pt(0, 1), pt(-3, 3), pt(-1, 0), pt(-1, -1), pt(0, -7), pt(5, -5)}

// hasSpokes fails the test unless Spokes returns these two.
func hasSpokes(t *testing.T, it api.Item, first, last api.Pt) {
	t.Helper()
	if gotFirst, gotLast := arc.Spokes(it); gotFirst != first || gotLast != last {
		t.Errorf("Spokes(%+v) = %v, %v, want %v, %v", it, gotFirst, gotLast, first, last)
	}
}

// P13.4
func TestSpokes(t *testing.T) {
	it := api.Item{Kind: api.ItemArc, Plane: api.PlaneXY, Dir: 1, From: at(11, 22, 3), To: at(1, 12, 4), Center: at(1, 22, 3)}
	hasSpokes(t, it, pt(10, 0), pt(0, -10))
	it = api.Item{Kind: api.ItemArc, Plane: api.PlaneZX, Dir: 1, From: at(11, 3, 22), To: at(1, 4, 12), Center: at(1, 3, 22)}
	hasSpokes(t, it, pt(0, 10), pt(-10, 0))
	it = api.Item{Kind: api.ItemArc, Plane: api.PlaneYZ, Dir: -1, From: at(3, 11, 22), To: at(4, 1, 12), Center: at(3, 1, 22)}
	hasSpokes(t, it, pt(10, 0), pt(0, -10))
	for _, plane := range planes {
		it := moved(fullAround(plane, 1, pt(-2*edge, -2*edge)), solid(plane, pt(edge, edge), 5))
		hasSpokes(t, it, pt(-2*edge, -2*edge), pt(-2*edge, -2*edge))
	}
}

// P13.4
func TestSpokesAreThoseOfTheModel(t *testing.T) {
	r := newRandom()
	for range 20000 {
		it := busy(r.arc())
		first, last := modelSpokes(it)
		hasSpokes(t, it, first, last)
	}
}

// P13.4: all sweeps between the directions of the compass.
func TestInsideOfTheCompass(t *testing.T) {
	for i, from := range compass {
		for n := 1; n < len(compass); n++ {
			to := compass[(i+n)%len(compass)]
			for _, plane := range planes {
				left := around(plane, 1, from, to)
				right := around(plane, -1, to, from)
				left, right = moved(left, at(-5, 70, 900)), moved(right, at(edge-9, 9-edge, 0))
				for step := range compass {
					p := compass[(i+step)%len(compass)]
					for _, length := range []int{1, 1000, edge / 2} {
						holds(t, left, pt(p.U*length, p.W*length), step <= n)
						holds(t, right, pt(p.U*length, p.W*length), step <= n)
					}
				}
			}
		}
	}
}

// P13.4: a full arc passes all directions.
func TestInsideOfFullArcs(t *testing.T) {
	for _, plane := range planes {
		for _, dir := range []int{1, -1} {
			for _, first := range []api.Pt{pt(10, 0), pt(-7, 24), pt(0, -8), pt(-edge, 3)} {
				for _, p := range append([]api.Pt{first, pt(-first.U, -first.W), pt(reach, -reach), pt(1, 1000)}, compass...) {
					holds(t, fullAround(plane, dir, first), p, true)
				}
			}
		}
	}
}

// P13.4: directions exactly on a spoke and next to it, also those of the greatest components.
func TestInsideNextToSpokes(t *testing.T) {
	first, last := pt(edge, edge-1), pt(1-edge, edge-1) // nearly at 45 degrees, and at 135
	for _, plane := range planes {
		left, right := around(plane, 1, first, last), around(plane, -1, last, first)
		other := around(plane, -1, first, last) // the rest of the turn
		for _, x := range []struct {
			p          api.Pt
			in, beyond bool
		}{
			{first, true, true}, {last, true, true},
			{pt(4*edge, 4*edge-4), true, true}, {pt(4*edge, 4*edge-5), false, true}, {pt(4*edge, 4*edge-3), true, false}, {pt(reach, reach), true, false}, {pt(reach, -reach), false, true},
			{pt(-reach, reach), true, true}, {pt(-reach, reach-1), false, true}, {pt(1-reach, reach), true, false}, {pt(-1, 1), true, true}, {pt(-reach, -reach), false, true},
			{pt(-first.U, -first.W), false, true}, {pt(-last.U, -last.W), false, true}, {pt(0, 1), true, false}, {pt(0, -1), false, true}, {pt(1, 1), true, false}, {pt(reach, 0), false, true}, {pt(-reach, 0), false, true}, {pt(0, reach), true, false}, {pt(0, -reach), false, true},
		} {
			holds(t, left, x.p, x.in)
			holds(t, right, x.p, x.in)
			holds(t, other, x.p, x.beyond)
		}
	}
}

// P13.4: half turns, and sweeps that are less or more by as little as there is.
func TestInsideOfHalfTurns(t *testing.T) {
	for _, plane := range planes {
		half := around(plane, 1, pt(1000, 0), pt(-1000, 0))
		less := around(plane, 1, pt(1000, 0), pt(-1000, 1))
		more := around(plane, 1, pt(1000, 0), pt(-1000, -1))
		for _, x := range []struct {
			p                      api.Pt
			isLess, isHalf, isMore bool
		}{
			{pt(1, 0), true, true, true}, {pt(0, 5), true, true, true}, {pt(-1000, 2), true, true, true}, {pt(-1000, 1), true, true, true}, {pt(-2000, 1), false, true, true},
			{pt(-5, 0), false, true, true}, {pt(-2000, -1), false, false, true}, {pt(-1000, -1), false, false, true}, {pt(-999, -1), false, false, false}, {pt(0, -1), false, false, false}, {pt(1000, -1), false, false, false},
		} {
			holds(t, less, x.p, x.isLess)
			holds(t, half, x.p, x.isHalf)
			holds(t, more, x.p, x.isMore)
			less, half, more := less, half, more
			less.Dir, half.Dir, more.Dir = -1, -1, -1
			end := pt(-1000, 0)
			onSpoke := x.p == pt(1, 0)
			holds(t, half, x.p, !x.isHalf || onSpoke || x.p == pt(-5, 0))
			holds(t, half, end, true)
			holds(t, less, x.p, !x.isLess || onSpoke || x.p == pt(-1000, 1))
			holds(t, more, x.p, !x.isMore || onSpoke || x.p == pt(-1000, -1))
		}
	}
}

// P13.4 and the consequence that Inside holds for both spokes.
func TestInsideIsThatOfTheModel(t *testing.T) {
	r := newRandom()
	done := map[bool]int{}
	for range 20000 {
		it := r.arc()
		first, last := modelSpokes(it)
		holds(t, it, first, true)
		holds(t, it, last, true)
		for _, p := range []api.Pt{
			pt(-first.U, -first.W), pt(-last.U, -last.W), pt(first.U+r.IntN(3)-1, first.W+r.IntN(3)-1), pt(last.U+r.IntN(3)-1, last.W+r.IntN(3)-1),
			r.point(reach), r.point(reach), r.point(40), pt(first.U+last.U, first.W+last.W), pt(-first.U-last.U, -first.W-last.W), compass[r.IntN(len(compass))],
		} {
			if p != pt(0, 0) {
				want := modelInside(it, p)
				holds(t, it, p, want)
				done[want]++
			}
		}
	}
	if done[true] < 50000 || done[false] < 50000 {
		t.Errorf("only %d directions inside and %d outside", done[true], done[false])
	}
}

// P13.5
func TestTangentOfArcs(t *testing.T) {
	for _, plane := range planes {
		heads(t, around(plane, 1, pt(10, 0), pt(0, 10)), pt(0, 10), pt(-10, 0))
		heads(t, around(plane, -1, pt(10, 0), pt(0, 10)), pt(0, -10), pt(10, 0))
		heads(t, moved(around(plane, 1, pt(3, -40), pt(-38, 12)), at(-5, 70, 900)), pt(40, 3), pt(-12, -38))
		heads(t, moved(around(plane, -1, pt(3, -40), pt(-38, 12)), at(-5, 70, 900)), pt(-40, -3), pt(12, 38))
		heads(t, fullAround(plane, 1, pt(-7, 24)), pt(-24, -7), pt(-24, -7))
		heads(t, fullAround(plane, -1, pt(-7, 24)), pt(24, 7), pt(24, 7))
		heads(t, moved(fullAround(plane, 1, pt(-2*edge, -2*edge)), solid(plane, pt(edge, edge), 5)), pt(2*edge, -2*edge), pt(2*edge, -2*edge))
		// The height of To has no effect.
		it := around(plane, 1, pt(10, 0), pt(0, 10))
		it.To = solid(plane, pt(0, 10), 777)
		heads(t, it, pt(0, 10), pt(-10, 0))
	}
}

// P13.5
func TestTangentIsThatOfTheModel(t *testing.T) {
	r := newRandom()
	for range 20000 {
		it := busy(r.arc())
		a, b := modelSpokes(it)
		if it.Dir == 1 {
			heads(t, it, pt(-a.W, a.U), pt(-b.W, b.U))
		} else {
			heads(t, it, pt(a.W, -a.U), pt(b.W, -b.U))
		}
	}
}

// P13.5: items of other kinds, whatever their other fields are.
func TestTangentOfOtherItems(t *testing.T) {
	for _, kind := range others {
		it := api.Item{Kind: kind, From: at(100, 200, 300), To: at(101, 220, 0), Center: at(7, 8, 9), Dir: -1, Full: true}
		for plane, want := range map[int]api.Pt{17: pt(1, 20), 18: pt(-300, 1), 19: pt(20, -300)} {
			it.Plane = plane
			heads(t, it, want, want)
			heads(t, busy(it), want, want)
		}
		for _, plane := range noPlanes {
			it.Plane = plane
			heads(t, it, pt(0, 0), pt(0, 0))
		}
		it = api.Item{Kind: kind, Plane: api.PlaneYZ, From: at(edge, -edge, edge), To: at(-edge, edge, -edge)}
		heads(t, it, pt(2*edge, -2*edge), pt(2*edge, -2*edge))
		it.To = it.From
		heads(t, it, pt(0, 0), pt(0, 0))
	}
}
