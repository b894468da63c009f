package arc_test

import (
	"math"
	"testing"

	"cnc/api"
	"cnc/arc"
)

// P13.1
func TestOffset(t *testing.T) {
	from := at(100, 200, 300)
	centers(t, api.PlaneXY, from, 5, -6, 0, at(105, 194, 300), api.OK)
	centers(t, api.PlaneZX, from, 5, 0, -7, at(105, 200, 293), api.OK)
	centers(t, api.PlaneYZ, from, 0, -6, 7, at(100, 194, 307), api.OK)
	for _, plane := range planes {
		centers(t, plane, from, 0, 0, 0, from, api.OK)
		centers(t, plane, at(-edge, edge, -edge), 0, 0, 0, at(-edge, edge, -edge), api.OK)
	}
}

// P13.1: distances along the height, whatever else applies behind them.
func TestOffsetAlongTheHeight(t *testing.T) {
	for _, d := range append([]int{1, -1, 50, edge, -reach, reach}, beyond...) {
		for _, other := range []int{0, 1, edge, -edge, reach, reach + 1, -reach - 1, most, least} {
			noOffset(t, api.PlaneXY, at(1, 2, 3), other, 5, d, api.ErrConflict)
			noOffset(t, api.PlaneXY, at(1, 2, 3), 5, other, d, api.ErrConflict)
			noOffset(t, api.PlaneZX, at(1, 2, 3), other, d, 5, api.ErrConflict)
			noOffset(t, api.PlaneZX, at(1, 2, 3), 5, d, other, api.ErrConflict)
			noOffset(t, api.PlaneYZ, at(1, 2, 3), d, other, 5, api.ErrConflict)
			noOffset(t, api.PlaneYZ, at(1, 2, 3), d, 5, other, api.ErrConflict)
		}
	}
}

// P13.1: a center at the end of the coordinates and behind it, in each component.
func TestOffsetAtTheEnd(t *testing.T) {
	for _, sign := range []int{1, -1} {
		for _, d := range []int{1, 5, edge, 2 * edge} {
			near, far, step := sign*(edge-d), sign*(edge+1-d), sign*d
			centers(t, api.PlaneXY, at(near, 7, 8), step, 0, 0, at(sign*edge, 7, 8), api.OK)
			centers(t, api.PlaneXY, at(7, near, 8), 0, step, 0, at(7, sign*edge, 8), api.OK)
			centers(t, api.PlaneZX, at(near, 7, 8), step, 0, 0, at(sign*edge, 7, 8), api.OK)
			centers(t, api.PlaneZX, at(7, 8, near), 0, 0, step, at(7, 8, sign*edge), api.OK)
			centers(t, api.PlaneYZ, at(7, near, 8), 0, step, 0, at(7, sign*edge, 8), api.OK)
			centers(t, api.PlaneYZ, at(7, 8, near), 0, 0, step, at(7, 8, sign*edge), api.OK)
			noOffset(t, api.PlaneXY, at(far, 7, 8), step, 0, 0, api.ErrRange)
			noOffset(t, api.PlaneXY, at(7, far, 8), 0, step, 0, api.ErrRange)
			noOffset(t, api.PlaneZX, at(far, 7, 8), step, 0, 0, api.ErrRange)
			noOffset(t, api.PlaneZX, at(7, 8, far), 0, 0, step, api.ErrRange)
			noOffset(t, api.PlaneYZ, at(7, far, 8), 0, step, 0, api.ErrRange)
			noOffset(t, api.PlaneYZ, at(7, 8, far), 0, 0, step, api.ErrRange)
		}
	}
}

// P13.1: distances at 4 * api.MaxCoord and behind it, none of which leads to a center within the coordinates.
func TestOffsetOfFarDistances(t *testing.T) {
	for _, d := range append([]int{reach - 1, -reach, 1 - reach, -reach - 1}, beyond...) {
		for _, c := range []int{0, edge, -edge} {
			from := at(c, c, c)
			if d > 2*edge || d < -2*edge || c == 0 {
				for _, other := range []int{0, 3, d} {
					noOffset(t, api.PlaneXY, from, d, other, 0, api.ErrRange)
					noOffset(t, api.PlaneXY, from, other, d, 0, api.ErrRange)
					noOffset(t, api.PlaneZX, from, d, 0, other, api.ErrRange)
					noOffset(t, api.PlaneZX, from, other, 0, d, api.ErrRange)
					noOffset(t, api.PlaneYZ, from, 0, d, other, api.ErrRange)
					noOffset(t, api.PlaneYZ, from, 0, other, d, api.ErrRange)
				}
			}
		}
	}
}

// P13.1: ErrArg, whatever the distances are.
func TestOffsetRefusesArguments(t *testing.T) {
	for _, d := range [][3]int{{0, 0, 0}, {5, -6, 0}, {1, 1, 1}, {reach + 1, 0, 0}, {most, least, most}, {0, least, 0}} {
		for _, plane := range noPlanes {
			noOffset(t, plane, at(1, 2, 3), d[0], d[1], d[2], api.ErrArg)
			noOffset(t, plane, at(1, 2, most), d[0], d[1], d[2], api.ErrArg)
		}
		for _, plane := range planes {
			for _, n := range beyond {
				noOffset(t, plane, at(n, 2, 3), d[0], d[1], d[2], api.ErrArg)
				noOffset(t, plane, at(1, n, 3), d[0], d[1], d[2], api.ErrArg)
				noOffset(t, plane, at(1, 2, n), d[0], d[1], d[2], api.ErrArg)
			}
		}
	}
	// The distance would lead back into the coordinates.
	noOffset(t, api.PlaneXY, at(edge+1, 0, 0), -1, 0, 0, api.ErrArg)
	noOffset(t, api.PlaneZX, at(-edge-1, 0, 0), 5, 0, 0, api.ErrArg)
	noOffset(t, api.PlaneYZ, at(0, edge+1, 0), 0, -9, 0, api.ErrArg)
}

// P13.1
func TestOffsetIsThatOfTheModel(t *testing.T) {
	r := newRandom()
	done := map[api.Errno]int{}
	for range 60000 {
		plane, from := r.plane(), r.vector(edge)
		d := [3]int{r.number(edge), r.number(edge), r.number(edge)}
		if r.IntN(4) > 0 {
			d[map[int]int{17: 2, 18: 1, 19: 0}[plane]] = 0
		}
		switch r.IntN(16) {
		case 0:
			from = r.vector(2 * edge)
		case 1:
			plane = noPlanes[r.IntN(len(noPlanes))]
		case 2:
			d[r.IntN(3)] = r.number(2 * reach)
		}
		want, err := modelOffset(plane, from, d[0], d[1], d[2])
		centers(t, plane, from, d[0], d[1], d[2], want, err)
		done[err]++
	}
	for _, err := range []api.Errno{api.OK, api.ErrArg, api.ErrConflict, api.ErrRange} {
		if done[err] < 1000 {
			t.Errorf("only %d centers with the error %d", done[err], err)
		}
	}
}

// P13.2
func TestRadius(t *testing.T) {
	for _, x := range []struct {
		from, to     api.Pt
		r            int
		left, center api.Pt // with the directions 1 and -1
	}{
		{pt(0, 0), pt(2000, 0), 1000, pt(1000, 0), pt(1000, 0)},
		{pt(0, 0), pt(60, 0), 50, pt(30, 40), pt(30, -40)},
		{pt(60, 0), pt(0, 0), 50, pt(30, -40), pt(30, 40)},
		{pt(0, 0), pt(0, 60), 50, pt(-40, 30), pt(40, 30)},
		{pt(0, 60), pt(0, 0), 50, pt(40, 30), pt(-40, 30)},
		{pt(10, 20), pt(58, 56), 50, pt(10, 70), pt(58, 6)},
		{pt(-10, -20), pt(-58, -56), 50, pt(-10, -70), pt(-58, -6)},
		{pt(-10, 20), pt(-58, 56), 50, pt(-58, 6), pt(-10, 70)},
		// A short chord, and the rounding of the root: 15.97 and 19.82.
		{pt(0, 0), pt(1, 0), 8, pt(0, 8), pt(0, -8)},
		{pt(0, 0), pt(0, -2), 10, pt(10, -1), pt(-10, -1)},
		{pt(0, 0), pt(7, 0), 10, pt(3, 10), pt(3, -10)},
		// Odd sums, also negative ones, and a quotient in the middle of two integers: 39.5 and -39.5 before side is taken.
		{pt(0, 0), pt(61, 0), 50, pt(30, 40), pt(30, -40)},
		{pt(61, 0), pt(0, 0), 50, pt(30, -39), pt(30, 39)},
		{pt(0, 0), pt(-61, 0), 50, pt(-31, -39), pt(-31, 39)},
		{pt(0, 0), pt(0, -61), 50, pt(39, -31), pt(-39, -31)},
		{pt(0, 1), pt(0, -62), 50, pt(39, -31), pt(-39, -31)},
		{pt(1, 0), pt(0, -1), 8, pt(6, -7), pt(-6, 5)},
		{pt(-5, -8), pt(-10, -13), 20, pt(6, -25), pt(-22, 3)},
	} {
		bendsInPlanes(t, x.from, x.to, 1, x.r, x.left)
		bendsInPlanes(t, x.from, x.to, -1, x.r, x.center)
	}
}

// P13.2: E is 0, positive by a little, or negative: the center is the middle.
func TestRadiusOfLongChords(t *testing.T) {
	for _, dir := range []int{1, -1} {
		bendsInPlanes(t, pt(0, 0), pt(100, 0), dir, 50, pt(50, 0))
		bendsInPlanes(t, pt(-3, 5), pt(77, -55), dir, 50, pt(37, -25))
		for _, w := range []int{-1, 0, 1} {
			bendsInPlanes(t, pt(0, 0), pt(101, w), dir, 50, pt(50, half(w)))
		}
		bendsInPlanes(t, pt(0, 0), pt(-101, 14), dir, 50, pt(-51, 7))
		// D is (2 * r + 2)^2, and one more.
		bendsInPlanes(t, pt(0, 0), pt(102, 0), dir, 50, pt(51, 0))
		bendsInPlanes(t, pt(5, 7), pt(5, -95), dir, 50, pt(5, -44))
		bendsInPlanes(t, pt(0, 0), pt(78, 104), dir, 64, pt(39, 52))
		for _, w := range []int{-1, 1} {
			noRadiusInPlanes(t, pt(0, 0), pt(102, w), dir, 50, api.ErrArc)
			noRadiusInPlanes(t, pt(0, 0), pt(w, -102), dir, 50, api.ErrArc)
		}
		noRadiusInPlanes(t, pt(0, 0), pt(103, 0), dir, 50, api.ErrArc)
		noRadiusInPlanes(t, pt(0, 0), pt(79, 104), dir, 64, api.ErrArc)
		noRadiusInPlanes(t, pt(0, 0), pt(edge, 0), dir, 8, api.ErrArc)
		noRadiusInPlanes(t, pt(-edge, -edge), pt(edge, edge), dir, edge, api.ErrArc)
		noRadiusInPlanes(t, pt(-edge, 1), pt(edge, 2900), dir, edge, api.ErrArc)
		bendsInPlanes(t, pt(-edge, 1), pt(edge, 2897), dir, edge, pt(0, 1449))
	}
}

// P13.2: From and To have the same position, whatever the heights are.
func TestRadiusWithoutChord(t *testing.T) {
	for _, p := range []api.Pt{pt(0, 0), pt(7, -8), pt(edge, edge), pt(-edge, edge)} {
		for _, r := range []int{8, 50, edge} {
			noRadiusInPlanes(t, p, p, 1, r, api.ErrArc)
			noRadiusInPlanes(t, p, p, -1, r, api.ErrArc)
		}
	}
}

// P13.2: the least and the greatest radius, and those on the wrong side of them.
func TestRadiusLimits(t *testing.T) {
	bendsInPlanes(t, pt(0, 0), pt(16, 0), 1, 8, pt(8, 0))
	bendsInPlanes(t, pt(0, 0), pt(8, 8), 1, 8, pt(0, 8))
	bendsInPlanes(t, pt(-edge, 0), pt(edge, 0), 1, edge, pt(0, 0))
	bendsInPlanes(t, pt(0, 0), pt(edge, edge), 1, edge, pt(0, edge))
	bendsInPlanes(t, pt(0, 0), pt(edge, edge), -1, edge, pt(edge, 0))
	for _, plane := range planes {
		for _, r := range noRadii {
			for _, to := range []api.Pt{pt(10, 0), pt(0, 0), pt(edge, -edge)} {
				noRadius(t, plane, at(0, 0, 0), solid(plane, to, 0), 1, r, api.ErrArg)
				noRadius(t, plane, at(0, 0, 0), solid(plane, to, 7), -1, r, api.ErrArg)
			}
		}
	}
}

// P13.2: a center at the end of the coordinates and behind it.
func TestRadiusAtTheEnd(t *testing.T) {
	for _, h := range []int{-9, 0, 9} {
		bendsInPlanes(t, pt(h, edge-40), pt(60+h, edge-40), 1, 50, pt(30+h, edge))
		bendsInPlanes(t, pt(h, 40-edge), pt(60+h, 40-edge), -1, 50, pt(30+h, -edge))
		bendsInPlanes(t, pt(edge-40, h), pt(edge-40, 60+h), -1, 50, pt(edge, 30+h))
		bendsInPlanes(t, pt(40-edge, h), pt(40-edge, 60+h), 1, 50, pt(-edge, 30+h))
		noRadiusInPlanes(t, pt(h, edge-39), pt(60+h, edge-39), 1, 50, api.ErrRange)
		noRadiusInPlanes(t, pt(h, 39-edge), pt(60+h, 39-edge), -1, 50, api.ErrRange)
		noRadiusInPlanes(t, pt(edge-39, h), pt(edge-39, 60+h), -1, 50, api.ErrRange)
		noRadiusInPlanes(t, pt(39-edge, h), pt(39-edge, 60+h), 1, 50, api.ErrRange)
	}
	noRadiusInPlanes(t, pt(edge-60, edge), pt(edge, edge), 1, edge, api.ErrRange)
	noRadiusInPlanes(t, pt(edge, 0), pt(edge, 60), -1, edge, api.ErrRange)
}

// P13.2: ErrArg for each argument, also where ErrArc or ErrRange would apply behind it.
func TestRadiusRefusesArguments(t *testing.T) {
	for _, plane := range planes {
		for _, ends := range [][2]api.Pt{{pt(0, 0), pt(60, 0)}, {pt(5, 5), pt(5, 5)}, {pt(0, 0), pt(edge, edge)}, {pt(0, edge), pt(60, edge)}} {
			from, to := solid(plane, ends[0], 3), solid(plane, ends[1], -4)
			for _, bad := range noPlanes {
				noRadius(t, bad, from, to, 1, 50, api.ErrArg)
			}
			for _, dir := range noDirs {
				noRadius(t, plane, from, to, dir, 50, api.ErrArg)
			}
			for _, r := range noRadii {
				noRadius(t, plane, from, to, 1, r, api.ErrArg)
			}
			for _, n := range beyond {
				for i := range 3 {
					far := from
					*components(&far)[i] = n
					noRadius(t, plane, far, to, 1, 50, api.ErrArg)
					noRadius(t, plane, far, far, 1, 50, api.ErrArg)
					far = to
					*components(&far)[i] = n
					noRadius(t, plane, from, far, -1, -50, api.ErrArg)
				}
			}
		}
		// These have a center within the coordinates.
		noRadius(t, plane, solid(plane, pt(edge+1, 0), 0), solid(plane, pt(edge-59, 0), 0), 1, 50, api.ErrArg)
		noRadius(t, plane, solid(plane, pt(0, edge-59), 0), solid(plane, pt(0, edge+1), 0), 1, 50, api.ErrArg)
	}
}

// P13.2
func TestRadiusIsThatOfTheModel(t *testing.T) {
	r := newRandom()
	done := map[api.Errno]int{}
	for range 120000 {
		plane, from, dir, radius := r.plane(), r.vector(edge), r.dir(), r.radius()
		// Many chords are about as long as the diameter, and many much shorter.
		length := 2 * math.Abs(float64(radius))
		if r.IntN(2) == 0 {
			length *= r.Float64()
		} else {
			length += 6*r.Float64() - 3
		}
		p, _ := flat(plane, from)
		chord := r.spoke(length)
		to := solid(plane, pt(p.U+chord.U, p.W+chord.W), r.number(edge))
		switch r.IntN(24) {
		case 0:
			plane = noPlanes[r.IntN(len(noPlanes))]
		case 1:
			dir = noDirs[r.IntN(len(noDirs))]
		case 2:
			to = r.vector(edge)
		case 3:
			radius = noRadii[r.IntN(len(noRadii))]
		}
		want, err := modelRadius(plane, from, to, dir, radius)
		bends(t, plane, from, to, dir, radius, want, err)
		done[err]++
	}
	for _, err := range []api.Errno{api.OK, api.ErrArg, api.ErrArc, api.ErrRange} {
		if done[err] < 2000 {
			t.Errorf("only %d centers with the error %d", done[err], err)
		}
	}
}

// P13.2: all chords of a few units, in each direction, with all small radii.
func TestRadiusOfShortChordsIsThatOfTheModel(t *testing.T) {
	for u := -19; u <= 19; u++ {
		for w := -19; w <= 19; w++ {
			for r := -12; r <= 12; r++ {
				for _, dir := range []int{1, -1} {
					want, err := modelRadius(api.PlaneZX, at(3, 5, -8), at(3+w, 6, u-8), dir, r)
					bends(t, api.PlaneZX, at(3, 5, -8), at(3+w, 6, u-8), dir, r, want, err)
				}
			}
		}
	}
}

// arcOf returns the arc that Radius describes, and whether there is one.
func arcOf(plane int, from, to api.Vec, dir, r int) (api.Item, bool) {
	center, err := arc.Radius(plane, from, to, dir, r)
	return api.Item{Kind: api.ItemArc, Plane: plane, From: from, To: to, Center: center, Dir: dir}, err == api.OK
}

// fitsRadius fails the test unless an arc that Radius describes passes Check, keeps the radius, and has the sweep that the sign of r asks for.
func fitsRadius(t *testing.T, it api.Item, r int) {
	t.Helper()
	checks(t, it, api.OK)
	first, last := modelSpokes(it)
	holds(t, it, first, true)
	holds(t, it, last, true)
	for _, p := range []api.Pt{first, last} {
		if length := math.Hypot(float64(p.U), float64(p.W)); math.Abs(length-math.Abs(float64(r))) > 3 {
			t.Errorf("the arc %+v with the radius %d has a spoke of the length %g", it, r, length)
		}
	}
	// Where the spokes are nearly opposite, the rounding of the center decides between less and more than a half turn.
	cross := float64(first.U*last.W-first.W*last.U) / float64(r*r)
	if r < 0 {
		cross = -cross
	}
	if cross*float64(it.Dir) < -5/math.Abs(float64(r)) {
		t.Errorf("the arc %+v with the radius %d has the wrong sweep", it, r)
	}
}

// The consequence: short chords of all directions, with the radii that it begins with.
func TestShortArcsOfRadiusPassCheck(t *testing.T) {
	for u := -40; u <= 40; u++ {
		for w := -40; w <= 40; w++ {
			d := u*u + w*w
			for r := api.MinArc + api.ArcTol; d >= 4*api.MinArc*api.MinArc && r < 50; r++ {
				if 4*r*r < d {
					continue
				}
				for _, n := range []int{r, -r} {
					it, ok := arcOf(api.PlaneYZ, at(3, 1, -4), at(9, 1+u, w-4), 1, n)
					if !ok {
						t.Fatalf("there is no arc with the radius %d to (%d, %d)", n, u, w)
					}
					fitsRadius(t, it, n)
				}
			}
		}
	}
}

// The consequence: arcs of all sizes.
func TestArcsOfRadiusPassCheck(t *testing.T) {
	r := newRandom()
	done := 0
	for range 60000 {
		plane, from, dir, radius := r.plane(), r.vector(edge), r.dir(), r.radius()
		size := max(radius, -radius)
		length := float64(2 * size)
		if r.IntN(2) == 0 {
			length *= r.Float64()
		}
		chord := r.spoke(length)
		d := chord.U*chord.U + chord.W*chord.W
		if size < api.MinArc+api.ArcTol || d < 4*api.MinArc*api.MinArc || d > 4*size*size {
			continue
		}
		p, _ := flat(plane, from)
		if it, ok := arcOf(plane, from, solid(plane, pt(p.U+chord.U, p.W+chord.W), r.number(edge)), dir, radius); ok {
			fitsRadius(t, it, radius)
			done++
		}
	}
	if done < 15000 {
		t.Errorf("only %d arcs were within the coordinates", done)
	}
}
