package arc_test

import (
	"testing"

	"cnc/api"
	"cnc/arc"
)

// P13.3
func TestCheckAccepts(t *testing.T) {
	for _, last := range []api.Pt{pt(0, 10), pt(0, -10), pt(-10, 0), pt(-8, 6), pt(6, -8), pt(8, -6), pt(0, 14), pt(-12, 0)} {
		checksSpokes(t, false, pt(10, 0), last, api.OK)
	}
	checksSpokes(t, true, pt(10, 0), pt(10, 0), api.OK)
	checksSpokes(t, true, pt(-900, 77), pt(-900, 77), api.OK)
	for _, plane := range planes {
		for _, dir := range []int{1, -1} {
			for _, full := range []bool{false, true} {
				// The height of To may be any one.
				for _, h := range []int{1, -500, edge, -edge} {
					it := around(plane, dir, pt(10, 0), pt(0, 10))
					if full {
						it = fullAround(plane, dir, pt(10, 0))
					}
					to, _ := flat(plane, it.To)
					it.To = solid(plane, to, h)
					checks(t, it, api.OK)
				}
			}
		}
		// All positions at the ends of the coordinates.
		for _, n := range []int{edge, -edge} {
			checks(t, moved(around(plane, 1, pt(-n, 0), pt(0, -n)), solid(plane, pt(n, n), n)), api.OK)
			checks(t, moved(around(plane, -1, pt(-2*n, 0), pt(0, -2*n)), solid(plane, pt(n, n), -n)), api.OK)
			checks(t, moved(fullAround(plane, -1, pt(-2*n, -2*n)), solid(plane, pt(n, n), -n)), api.OK)
		}
	}
}

// P13.3: the kind, the plane and the direction, also where ErrArc would apply behind them.
func TestCheckRefusesFields(t *testing.T) {
	for _, it := range broken() {
		for _, kind := range others {
			it := it
			it.Kind = kind
			checks(t, it, api.ErrArg)
		}
		for _, plane := range noPlanes {
			it := it
			it.Plane = plane
			checks(t, it, api.ErrArg)
		}
		for _, dir := range noDirs {
			it := it
			it.Dir = dir
			checks(t, it, api.ErrArg)
		}
	}
	checks(t, api.Item{}, api.ErrArg)
	checks(t, api.Item{Kind: api.ItemArc}, api.ErrArg)
	checks(t, api.Item{Kind: api.ItemArc, Plane: api.PlaneXY}, api.ErrArg)
	checks(t, api.Item{Kind: api.ItemArc, Plane: api.PlaneXY, Dir: 1}, api.ErrArc)
}

// broken returns arcs that pass Check and arcs that have ErrArc, in every plane.
func broken() []api.Item {
	var list []api.Item
	for _, plane := range planes {
		list = append(list,
			around(plane, 1, pt(10, 0), pt(0, 10)), fullAround(plane, -1, pt(10, 0)),
			around(plane, -1, pt(10, 0), pt(0, 15)), around(plane, 1, pt(7, 0), pt(0, 7)), around(plane, 1, pt(10, 0), pt(10, 0)),
			fullAround(plane, 1, pt(0, 0)), around(plane, 1, pt(10, 0), pt(12, 0)),
		)
	}
	return list
}

// P13.3: each component of each vector beyond the coordinates, where the others fit and where they do not.
func TestCheckRefusesFarVectors(t *testing.T) {
	for _, it := range broken() {
		for i := range 3 {
			for j := range 3 {
				for _, n := range beyond {
					far := it
					*components(vectors(&far)[i])[j] = n
					checks(t, far, api.ErrArg)
				}
			}
		}
	}
	for _, plane := range planes {
		for _, full := range []bool{false, true} {
			for _, sign := range []int{1, -1} {
				// Arcs that are right but for one vector, two or all of them, which are greater by 1 than the coordinates.
				it := around(plane, 1, pt(0, 20*sign), pt(20*sign, 0))
				if full {
					it = fullAround(plane, 1, pt(0, 20*sign))
				}
				checks(t, moved(it, solid(plane, pt(sign*(edge-20), 0), 0)), api.OK)
				checks(t, moved(it, solid(plane, pt(0, sign*(edge-20)), 0)), api.OK)
				checks(t, moved(it, solid(plane, pt(0, sign*(edge-19)), 0)), api.ErrArg)
				if !full {
					checks(t, moved(it, solid(plane, pt(sign*(edge-19), 0), 0)), api.ErrArg)
				}
				checks(t, moved(it, solid(plane, pt(0, 0), sign*edge)), api.OK)
				checks(t, moved(it, solid(plane, pt(0, 0), sign*(edge+1))), api.ErrArg)
				it = around(plane, 1, pt(-20*sign, 0), pt(0, -20*sign))
				checks(t, moved(it, solid(plane, pt(sign*(edge+1), 0), 0)), api.ErrArg)
				checks(t, moved(it, solid(plane, pt(0, sign*(edge+1)), 0)), api.ErrArg)
				it.To = solid(plane, pt(0, -20*sign), sign*(edge+1))
				checks(t, it, api.ErrArg)
			}
		}
	}
}

// P13.3: the heights of Center and From.
func TestCheckRefusesHeights(t *testing.T) {
	for _, it := range broken() {
		for _, d := range []int{1, -1, 4, 99, edge, -edge} {
			for i := range vectors(&it) {
				bent := it
				v := vectors(&bent)[i]
				p, h := flat(it.Plane, *v)
				*v = solid(it.Plane, p, h+d)
				if i != 1 {
					checks(t, bent, api.ErrArg)
				} else if arc.Check(bent) == api.ErrArg {
					t.Errorf("Check(%+v) = ErrArg, though only To has another height", bent)
				}
			}
		}
	}
}

// P13.3: the least length of a spoke, where it is an integer and where it is not.
func TestCheckOfShortSpokes(t *testing.T) {
	for _, x := range []struct {
		first, last api.Pt
		want        api.Errno
	}{
		{pt(8, 0), pt(0, 8), api.OK}, {pt(-8, 0), pt(8, 0), api.OK}, {pt(0, -8), pt(8, 1), api.OK}, {pt(8, 0), pt(0, 12), api.OK}, {pt(6, 6), pt(-8, 0), api.OK},
		{pt(7, 0), pt(0, 8), api.ErrArc}, {pt(7, 0), pt(0, 7), api.ErrArc}, {pt(8, 0), pt(0, 7), api.ErrArc}, {pt(-7, 0), pt(7, 0), api.ErrArc}, {pt(7, 0), pt(0, 11), api.ErrArc},
		{pt(6, 5), pt(0, 8), api.ErrArc}, {pt(7, 3), pt(0, 9), api.ErrArc}, {pt(8, 0), pt(-5, -6), api.ErrArc},
		{pt(0, 0), pt(0, 0), api.ErrArc}, {pt(0, 0), pt(8, 0), api.ErrArc}, {pt(1, 0), pt(0, 1), api.ErrArc},
	} {
		checksSpokes(t, false, x.first, x.last, x.want)
	}
	for _, p := range []api.Pt{pt(8, 0), pt(0, -8), pt(6, 6), pt(-1, 8), pt(4, 7)} {
		checksSpokes(t, true, p, p, api.OK)
	}
	for _, p := range []api.Pt{pt(0, 0), pt(7, 0), pt(0, -7), pt(-6, 5), pt(3, 7)} {
		checksSpokes(t, true, p, p, api.ErrArc)
	}
}

// P13.3: the difference of the lengths, where it is an integer and where it is not.
func TestCheckOfUnequalSpokes(t *testing.T) {
	const long = edge - 1000
	for _, x := range []struct {
		first, last api.Pt
		want        api.Errno
	}{
		{pt(10, 0), pt(0, 14), api.OK}, {pt(10, 0), pt(-14, 0), api.OK}, {pt(100, 0), pt(0, 104), api.OK}, {pt(6, 8), pt(-14, 0), api.OK},
		{pt(10, 0), pt(0, 15), api.ErrArc}, {pt(10, 0), pt(-15, 0), api.ErrArc}, {pt(100, 0), pt(0, 105), api.ErrArc}, {pt(8, 0), pt(0, long), api.ErrArc},
		{pt(10, 0), pt(14, 1), api.ErrArc}, {pt(10, 1), pt(14, 1), api.OK}, {pt(10, 1), pt(14, 2), api.ErrArc}, {pt(10, 1), pt(10, 10), api.ErrArc},
		{pt(long, 0), pt(0, long-4), api.OK}, {pt(long, 0), pt(0, 4-long), api.OK}, {pt(long, 0), pt(0, long-5), api.ErrArc}, {pt(-long, 0), pt(0, 5-long), api.ErrArc},
		{pt(long, 0), pt(1447, long+3), api.OK}, {pt(long, 0), pt(1448, long+3), api.ErrArc}, {pt(long, 0), pt(1448, long-5), api.OK}, {pt(long, 0), pt(1447, long-5), api.ErrArc},
	} {
		checksSpokes(t, false, x.first, x.last, x.want)
	}
}

// P13.3: the spokes of a full arc are equal, those of another one do not have the same direction.
func TestCheckOfDirections(t *testing.T) {
	for _, x := range []struct {
		first, last api.Pt
		full, other api.Errno
	}{
		{pt(10, 0), pt(10, 0), api.OK, api.ErrArc}, {pt(-7, 24), pt(-7, 24), api.OK, api.ErrArc}, {pt(-1000, -3000), pt(-1000, -3000), api.OK, api.ErrArc},
		{pt(10, 0), pt(12, 0), api.ErrArc, api.ErrArc}, {pt(0, -10), pt(0, -14), api.ErrArc, api.ErrArc}, {pt(-10, -10), pt(-12, -12), api.ErrArc, api.ErrArc}, {pt(30, -20), pt(33, -22), api.ErrArc, api.ErrArc},
		{pt(10, 0), pt(0, 10), api.ErrArc, api.OK}, {pt(10, 0), pt(-10, 0), api.ErrArc, api.OK}, {pt(10, 0), pt(-13, 0), api.ErrArc, api.OK}, {pt(30, -20), pt(-33, 22), api.ErrArc, api.OK}, {pt(0, 10), pt(0, -10), api.ErrArc, api.OK},
		{pt(1000, 1), pt(1000, 0), api.ErrArc, api.OK}, {pt(1000, 1), pt(1000, -1), api.ErrArc, api.OK}, {pt(1000, 1), pt(1001, 1), api.ErrArc, api.OK}, {pt(1000, 1), pt(-1001, -1), api.ErrArc, api.OK},
		{pt(3, 10), pt(4, 10), api.ErrArc, api.OK}, {pt(3, 10), pt(3, 11), api.ErrArc, api.OK},
	} {
		checksSpokes(t, true, x.first, x.last, x.full)
		checksSpokes(t, false, x.first, x.last, x.other)
	}
}

// P13.3: all pairs of short spokes.
func TestCheckOfShortSpokesIsThatOfTheModel(t *testing.T) {
	var list []api.Pt
	for u := -12; u <= 12; u += 2 {
		for w := -13; w <= 13; w++ {
			list = append(list, pt(u, w))
		}
	}
	for _, first := range list {
		for _, last := range list {
			it := around(api.PlaneZX, 1, first, last)
			checks(t, it, modelCheck(it))
			if first.U == last.U {
				it.Full = true
				checks(t, it, modelCheck(it))
			}
		}
	}
}

// P13.3
func TestCheckIsThatOfTheModel(t *testing.T) {
	r := newRandom()
	done := map[api.Errno]int{}
	for range 100000 {
		it := moved(r.sized(r.length()), r.vector(edge))
		switch r.IntN(24) {
		case 0:
			it.Kind = others[r.IntN(len(others))]
		case 1:
			it.Plane = noPlanes[r.IntN(len(noPlanes))]
		case 2:
			it.Dir = noDirs[r.IntN(len(noDirs))]
		case 3:
			*components(vectors(&it)[r.IntN(3)])[r.IntN(3)] += r.IntN(5) - 2
		case 4:
			*vectors(&it)[r.IntN(3)] = r.vector(2 * edge)
		}
		if r.IntN(2) == 0 {
			it = busy(it)
		}
		want := modelCheck(it)
		checks(t, it, want)
		done[want]++
	}
	for _, err := range []api.Errno{api.OK, api.ErrArg, api.ErrArc} {
		if done[err] < 10000 {
			t.Errorf("only %d arcs with the error %d", done[err], err)
		}
	}
}

// P13.3: spokes of any lengths, whose squares differ by much.
func TestCheckOfAnySpokesIsThatOfTheModel(t *testing.T) {
	r := newRandom()
	for range 40000 {
		it := api.Item{Kind: api.ItemArc, Plane: r.plane(), Dir: r.dir(), From: r.vector(edge), To: r.vector(edge), Center: r.vector(edge)}
		p, _ := flat(it.Plane, it.Center)
		_, h := flat(it.Plane, it.From)
		it.Center = solid(it.Plane, p, h)
		checks(t, it, modelCheck(it))
	}
}

// R1: no call panics, whatever the arguments are.
func TestAnything(t *testing.T) {
	r := newRandom()
	any := []int{0, 1, -1, 3, 8, 17, 18, 19, edge, edge + 1, reach, reach + 1, 1 << 31, 1 << 62, -1 << 62, most, least}
	draw := func() int { return any[r.IntN(len(any))] }
	for range 60000 {
		it := api.Item{Kind: draw(), Plane: draw(), Dir: draw(), Full: r.IntN(2) == 0}
		if r.IntN(2) == 0 {
			it.Kind, it.Plane = api.ItemArc, r.plane()
		}
		for _, v := range vectors(&it) {
			*v = at(draw(), draw(), draw())
		}
		arc.Check(it)
		arc.Spokes(it)
		arc.Inside(it, pt(draw(), draw()))
		arc.Inside(it, pt(0, 0))
		arc.Tangent(it, r.IntN(2) == 0)
		arc.Extent(it)
		arc.Offset(draw(), it.From, draw(), draw(), draw())
		arc.Radius(draw(), it.From, it.To, draw(), draw())
	}
}
