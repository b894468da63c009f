package frame_test

import (
	"testing"

	"cnc/api"
	"cnc/frame"
)

// P12.2
func TestMovesWithoutRotation(t *testing.T) {
	both(t, api.Frame{System: 54, Local: at(10, 0, 0)}, at(1, 2, 3), at(11, 2, 3))
	both(t, api.Frame{System: 57}, at(-1, 2, -3), at(-1, 2, -3))
	both(t, full(), at(1, -2, 3), at(1112, 2220, 3336))
	f := full()
	f.Length = -3
	both(t, f, at(1, -2, 3), at(1112, 2220, 3330))
	f.System, f.Length = 59, 0
	both(t, f, at(5, 6, 7), at(97, 208, 316))
	for _, n := range []int{edge, -edge} {
		both(t, api.Frame{System: 54}, at(n, -n, n), at(n, -n, n))
	}
}

// P12.2: quarter turns in each plane, about the program origin and about a center; the height stays.
func TestMovesWithQuarterTurns(t *testing.T) {
	p, center := at(10, 20, 30), at(100, 200, 300)
	for _, x := range []struct {
		plane, angle   int
		zero, centered api.Vec
	}{
		{api.PlaneXY, 0, at(10, 20, 30), at(10, 20, 30)},
		{api.PlaneXY, 90000000, at(-20, 10, 30), at(280, 110, 30)},
		{api.PlaneXY, 180000000, at(-10, -20, 30), at(190, 380, 30)},
		{api.PlaneXY, 270000000, at(20, -10, 30), at(-80, 290, 30)},
		{api.PlaneZX, 0, at(10, 20, 30), at(10, 20, 30)},
		{api.PlaneZX, 90000000, at(30, 20, -10), at(-170, 20, 390)},
		{api.PlaneZX, 180000000, at(-10, 20, -30), at(190, 20, 570)},
		{api.PlaneZX, 270000000, at(-30, 20, 10), at(370, 20, 210)},
		{api.PlaneYZ, 0, at(10, 20, 30), at(10, 20, 30)},
		{api.PlaneYZ, 90000000, at(10, -30, 20), at(10, 470, 120)},
		{api.PlaneYZ, 180000000, at(10, -20, -30), at(10, 380, 570)},
		{api.PlaneYZ, 270000000, at(10, 30, -20), at(10, -70, 480)},
	} {
		f := api.Frame{System: 54}
		both(t, turned(f, x.plane, x.angle, api.Vec{}), p, x.zero)
		both(t, turned(f, x.plane, x.angle, center), p, x.centered)
		// The center itself stays, whatever its height is.
		both(t, turned(f, x.plane, x.angle, center), center, center)
		// The origin is added after the rotation.
		moved := func(v api.Vec) api.Vec { return at(v.X+1111, v.Y+2222, v.Z+3333) }
		both(t, turned(full(), x.plane, x.angle, api.Vec{}), p, moved(x.zero))
		both(t, turned(full(), x.plane, x.angle, center), p, moved(x.centered))
	}
}

// P12.2: the height of the center has no effect.
func TestMovesWithHeightOfCenter(t *testing.T) {
	for _, h := range []int{0, 1, -5, edge, -edge} {
		both(t, turned(full(), api.PlaneXY, 90000000, at(1, 2, h)), at(11, 2, 7), at(1112, 2234, 3340))
		both(t, turned(full(), api.PlaneZX, 90000000, at(1, h, 2)), at(1, 7, 12), at(1122, 2229, 3335))
		both(t, turned(full(), api.PlaneYZ, 90000000, at(h, 1, 2)), at(7, 11, 2), at(1118, 2223, 3345))
	}
}

// P12.2: other angles, whose results are rounded.
func TestMovesWithAngles(t *testing.T) {
	for _, x := range []struct {
		angle int
		p, q  api.Vec
	}{
		{30000000, at(1000, 0, 5), at(866, 500, 5)}, {30000000, at(0, 1000, 5), at(-500, 866, 5)},
		{45000000, at(1000, 0, -5), at(707, 707, -5)}, {45000000, at(100, 100, 0), at(0, 141, 0)}, {60000000, at(1000, 0, 0), at(500, 866, 0)},
		{330000000, at(1000, 0, 0), at(866, -500, 0)}, {turn - 1, at(1000, 0, 0), at(1000, 0, 0)}, {turn - 1, at(edge, 0, 0), at(edge, 0, 0)},
		{53130102, at(3000, 4000, 1), at(-1400, 4800, 1)}, {1, at(0, edge, 0), at(0, edge, 0)}, {60, at(edge, 0, 0), at(edge, 1, 0)},
	} {
		f := turned(api.Frame{System: 54}, api.PlaneXY, x.angle, api.Vec{})
		to(t, f, x.p, x.q)
		to(t, turned(full(), api.PlaneXY, x.angle, api.Vec{}), at(x.p.X/2, x.p.Y/2, x.p.Z), frameSum(f, at(x.p.X/2, x.p.Y/2, x.p.Z), full()))
		// The same in the other planes.
		to(t, turned(f, api.PlaneZX, x.angle, api.Vec{}), at(x.p.Y, x.p.Z, x.p.X), at(x.q.Y, x.q.Z, x.q.X))
		to(t, turned(f, api.PlaneYZ, x.angle, api.Vec{}), at(x.p.Z, x.p.X, x.p.Y), at(x.q.Z, x.q.X, x.q.Y))
		// From rotates in the other direction.
		if x.angle > 0 {
			from(t, turned(f, api.PlaneXY, turn-x.angle, api.Vec{}), x.p, x.q)
		}
	}
	from(t, turned(api.Frame{System: 54}, api.PlaneXY, 30000000, api.Vec{}), at(866, 500, 5), at(1000, 0, 5))
	from(t, turned(api.Frame{System: 54}, api.PlaneXY, 30000000, api.Vec{}), at(0, 1000, 5), at(500, 866, 5))
	from(t, turned(full(), api.PlaneXY, 30000000, at(7, 8, 9)), at(1118, 3230, 3334), at(507, 874, 1))
}

// frameSum returns the machine position of p in f, whose origin is 0, with the origin of another frame.
func frameSum(f api.Frame, p api.Vec, other api.Frame) api.Vec {
	q, _ := frame.To(f, p)
	o := frame.Origin(other)
	return at(q.X+o.X, q.Y+o.Y, q.Z+o.Z)
}

// P12.2: a position beyond the coordinates, in each component, even if the result is none.
func TestMovesRefuseFarPositions(t *testing.T) {
	for _, f := range bases() {
		for _, n := range beyond {
			for _, p := range []api.Vec{at(n, 0, 0), at(0, n, 0), at(0, 0, n), at(n, n, n)} {
				noTo(t, f, p)
				noFrom(t, f, p)
			}
		}
	}
	for _, d := range []int{1, edge} {
		noTo(t, api.Frame{System: 54, Local: at(-d, -d, -d)}, at(edge+1, edge, edge))
		noTo(t, api.Frame{System: 54, Local: at(-d, -d, -d)}, at(edge, edge+1, edge))
		noTo(t, api.Frame{System: 54, Local: at(-d, -d, -d)}, at(edge, edge, edge+1))
		noFrom(t, api.Frame{System: 54, Local: at(d, d, d)}, at(edge+1, edge, edge))
		noFrom(t, api.Frame{System: 54, Local: at(d, d, d)}, at(edge, edge+1, edge))
		noFrom(t, api.Frame{System: 54, Local: at(d, d, d)}, at(edge, edge, edge+1))
		both(t, api.Frame{System: 54, Local: at(-d, -d, -d)}, at(edge, edge, edge), at(edge-d, edge-d, edge-d))
	}
	noTo(t, turned(api.Frame{System: 54}, api.PlaneXY, 45000000, api.Vec{}), at(edge+1, 0, 0))
	noFrom(t, turned(api.Frame{System: 54}, api.PlaneXY, 45000000, api.Vec{}), at(edge+1, 0, 0))
}

// P12.2: a result at the end of the coordinates and behind it, in each component.
func TestMovesRefuseFarResults(t *testing.T) {
	for _, n := range []int{edge, -edge} {
		sign := n / edge
		for _, axis := range []api.Vec{at(1, 0, 0), at(0, 1, 0), at(0, 0, 1)} {
			along := func(d int) api.Vec { return at(axis.X*d, axis.Y*d, axis.Z*d) }
			both(t, api.Frame{System: 54, Local: along(5 * sign)}, along(n-5*sign), along(n))
			noTo(t, api.Frame{System: 54, Local: along(5 * sign)}, along(n-4*sign))
			noFrom(t, api.Frame{System: 54, Local: along(-5 * sign)}, along(n-4*sign))
			both(t, api.Frame{System: 54, Shift: along(2 * sign), Local: along(-2 * sign)}, along(n), along(n))
			f := api.Frame{System: 58, Shift: along(n), Local: along(n)}
			f.Systems[4] = along(n)
			noTo(t, f, along(0))
			noTo(t, f, along(-n))
			noFrom(t, f, along(-n))
			noFrom(t, f, along(n))
			f.Shift = along(-n)
			both(t, f, along(-n), along(0))
		}
		f := api.Frame{System: 54, Length: n, Shift: at(0, 0, n), Local: at(0, 0, n)}
		f.Systems[0] = at(0, 0, n)
		for _, z := range []int{n, 0, -n} {
			noTo(t, f, at(0, 0, z))
			noFrom(t, f, at(0, 0, z))
		}
	}
}

// P12.2: a rotation leads beyond the coordinates, or into them again with the origin.
func TestMovesRefuseFarRotations(t *testing.T) {
	f := turned(api.Frame{System: 54}, api.PlaneXY, 45000000, api.Vec{})
	noTo(t, f, at(edge, edge, 0))
	noFrom(t, f, at(edge, edge, 0))
	noTo(t, f, at(741456, 741456, 0))
	both(t, f, at(741455, 741455, edge), at(0, 1048576, edge))
	f.Local = at(0, -edge, 0)
	to(t, f, at(edge, edge, 0), at(0, 434334, 0))
	from(t, f, at(0, 434334, 0), at(edge, edge, 0))
	f.Center = at(-edge, -edge, edge)
	f.Local = at(edge, -edge, 0)
	to(t, f, at(edge, edge, -edge), at(0, 868669, -edge))
	from(t, f, at(0, 868669, -edge), at(edge, edge, -edge))
	// The height is not bounded by what is rotated, and counts in the result.
	f = turned(api.Frame{System: 54, Local: at(0, 0, 1)}, api.PlaneXY, 45000000, api.Vec{})
	noTo(t, f, at(5, 5, edge))
	noFrom(t, f, at(5, 5, -edge))
	both(t, f, at(0, 0, edge-1), at(0, 0, edge))
}

// P12.2: corners that a rotation about the opposite corner takes as far away as it can, from where the origin leads back, and From likewise.
func TestMovesOfFarCorners(t *testing.T) {
	const diagonal = 2965821 // of a square with the side 2 * edge
	for _, x := range []struct{ cornerU, cornerW, angle, u, w int }{
		{-1, 1, 225000000, 1, 0}, {-1, 1, 315000000, 0, 1}, {-1, -1, 135000000, 1, 0}, {-1, -1, 225000000, 0, 1},
		{1, 1, 135000000, -1, 0}, {1, 1, 225000000, 0, -1}, {1, -1, 225000000, -1, 0}, {1, -1, 315000000, 0, -1},
	} {
		// Three summands make the origin, as one of them is too short.
		part := func(n int) int { return -n * diagonal / 3 }
		for _, plane := range planes {
			solid := func(u, w, height int) api.Vec {
				return map[int]api.Vec{api.PlaneXY: at(u, w, height), api.PlaneZX: at(w, height, u), api.PlaneYZ: at(height, u, w)}[plane]
			}
			f := turned(api.Frame{System: 54}, plane, x.angle, solid(-x.cornerU*edge, -x.cornerW*edge, 5))
			third := solid(part(x.u), part(x.w), 0)
			f.Systems[0], f.Local, f.Shift = third, third, third
			valid(t, f, true)
			program, machine := solid(x.cornerU*edge, x.cornerW*edge, 7), solid(-x.cornerU*edge, -x.cornerW*edge, 7)
			both(t, f, program, machine)
		}
	}
}

// P12.2: differences that are to be rotated, at the end of what can be rotated and behind it.
func TestMovesRefuseFarDifferences(t *testing.T) {
	for _, n := range []int{edge, -edge} {
		sign := n / edge
		for i, plane := range planes {
			first := []api.Vec{at(1, 0, 0), at(0, 0, 1), at(0, 1, 0)}[i]
			second := []api.Vec{at(0, 1, 0), at(1, 0, 0), at(0, 0, 1)}[i]
			for _, axis := range []api.Vec{first, second} {
				along := func(d int) api.Vec { return at(axis.X*d, axis.Y*d, axis.Z*d) }
				for _, angle := range []int{0, 1, 45000000, 90000000, 180000000, 225000000, turn - 1} {
					for _, center := range []int{0, 1 * sign, -1 * sign, n, -n} {
						f := turned(api.Frame{System: 54, Local: along(-n), Shift: along(-n)}, plane, angle, along(center))
						f.Systems[0] = along(-n)
						valid(t, f, true)
						noFrom(t, f, along(n))
						noFrom(t, f, along(n-sign))
					}
				}
				// With the length the sum is greater than any difference that is rotated.
				f := turned(api.Frame{System: 54, Local: along(-n), Shift: along(-n), Length: -n}, plane, 180000000, along(-n))
				f.Systems[0] = along(-n)
				noFrom(t, f, along(n))
			}
		}
	}
}

// The consequence: without a rotation To and From are inverse to each other.
func TestMovesUndoEachOther(t *testing.T) {
	r := newRandom()
	done := 0
	for range 20000 {
		f := r.frame(edge / 3)
		f.Turned, f.Plane, f.Angle, f.Center = false, 0, 0, api.Vec{}
		p := r.vector(edge)
		if q, err := frame.To(f, p); err == api.OK {
			from(t, f, q, p)
			done++
		}
		if q, err := frame.From(f, p); err == api.OK {
			to(t, f, q, p)
			done++
		}
	}
	if done < 20000 {
		t.Errorf("only %d positions were within the coordinates", done)
	}
}

// The consequence: with a rotation, From leads back to within 1.
func TestMovesNearlyUndoEachOther(t *testing.T) {
	r := newRandom()
	done := 0
	for range 40000 {
		f := r.frame(edge)
		p := r.vector(edge)
		q, err := frame.To(f, p)
		if err != api.OK {
			continue
		}
		back, err := frame.From(f, q)
		if atEnd := max(p.X, p.Y, p.Z, -p.X, -p.Y, -p.Z) == edge; err != api.OK && atEnd {
			continue // A coordinate that is greater by 1 is none.
		}
		if err != api.OK || apart(back, p) > 1 {
			t.Errorf("From(%+v, %v) = %v, %d, want %v within 1", f, q, back, err, p)
		}
		done++
	}
	if done < 10000 {
		t.Errorf("only %d positions were within the coordinates", done)
	}
}

// apart returns the greatest absolute value of the differences of the components.
func apart(a, b api.Vec) int {
	return max(a.X-b.X, b.X-a.X, a.Y-b.Y, b.Y-a.Y, a.Z-b.Z, b.Z-a.Z)
}

// R1: no call panics, whatever the frame and the position are.
func TestMovesWithAnything(t *testing.T) {
	r := newRandom()
	any := []int{0, 1, -1, 17, 18, 19, 53, 54, 59, 60, edge, edge + 1, 4 * edge, 4*edge + 1, turn, 1 << 62, -1 << 62, most, least}
	draw := func() int { return any[r.IntN(len(any))] }
	for range 20000 {
		f := api.Frame{System: draw(), Length: draw(), Turned: r.IntN(2) == 0, Plane: draw(), Angle: draw()}
		for _, v := range vectors(&f) {
			*v = at(draw(), draw(), draw())
		}
		p := at(draw(), draw(), draw())
		frame.Valid(f)
		frame.Origin(f)
		frame.To(f, p)
		frame.From(f, p)
	}
}
