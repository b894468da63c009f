package frame_test

import (
	"testing"

	"cnc/api"
	"cnc/frame"
)

// bases returns valid frames of all kinds.
func bases() []api.Frame {
	list := []api.Frame{{System: 54}, full()}
	for _, plane := range planes {
		list = append(list, turned(full(), plane, 30000000, at(4, 5, 6)))
	}
	return list
}

// P12.1
func TestValid(t *testing.T) {
	valid(t, api.Frame{}, false)
	for _, f := range bases() {
		valid(t, f, true)
	}
	r := newRandom()
	for range 2000 {
		valid(t, r.frame(edge), true)
	}
}

// P12.1: each component of each vector at the end of its range and behind it.
func TestValidVectors(t *testing.T) {
	for _, base := range bases() {
		for i := range vectors(&base) {
			for j := range 3 {
				set := func(n int) api.Frame {
					f := base
					*components(vectors(&f)[i])[j] = n
					return f
				}
				isCenter := i == 2
				for _, n := range []int{edge, -edge, edge - 1, 1 - edge, 1, -1} {
					valid(t, set(n), base.Turned || !isCenter)
				}
				for _, n := range beyond {
					valid(t, set(n), false)
				}
			}
		}
	}
}

// P12.1: the systems, of which only one is in use, and all six numbers of it.
func TestValidSystem(t *testing.T) {
	for _, base := range bases() {
		for system := 54; system <= 59; system++ {
			f := base
			f.System = system
			valid(t, f, true)
			for i := range f.Systems {
				g := f
				g.Systems[i].Y = edge + 1
				valid(t, g, false)
			}
		}
		for _, system := range []int{53, 60, 0, 1, 5, 6, -1, -54, 1<<32 + 54, most, least} {
			f := base
			f.System = system
			valid(t, f, false)
		}
	}
}

// P12.1
func TestValidLength(t *testing.T) {
	for _, base := range bases() {
		for _, n := range []int{0, 1, -1, edge, -edge, edge - 1, 1 - edge} {
			base.Length = n
			valid(t, base, true)
		}
		for _, n := range beyond {
			base.Length = n
			valid(t, base, false)
		}
	}
}

// P12.1: the rotation of a frame that is Turned.
func TestValidTurned(t *testing.T) {
	for _, base := range []api.Frame{{System: 54}, full()} {
		for _, plane := range planes {
			for _, center := range []api.Vec{{}, at(1, 2, 3), at(0, 0, -7), at(edge, -edge, edge)} {
				for _, angle := range []int{0, 1, 90000000, 180000000, turn - 1} {
					valid(t, turned(base, plane, angle, center), true)
				}
				for _, angle := range []int{turn, turn + 1, 2 * turn, -1, -turn, 1 << 32, most, least} {
					valid(t, turned(base, plane, angle, center), false)
				}
			}
		}
		for _, plane := range []int{16, 20, 0, 1, 3, -17, 1<<32 + 17, most, least} {
			valid(t, turned(base, plane, 0, api.Vec{}), false)
			valid(t, turned(base, plane, 1, at(1, 2, 3)), false)
		}
	}
}

// P12.1: what a frame that is not Turned may not have.
func TestValidNotTurned(t *testing.T) {
	for _, base := range []api.Frame{{System: 54}, full()} {
		for _, n := range []int{1, -1, 17, 18, 19, turn - 1, edge, most, least} {
			f := base
			f.Plane = n
			valid(t, f, false)
			f = base
			f.Angle = n
			valid(t, f, false)
			for j := range 3 {
				f = base
				*components(&f.Center)[j] = n
				valid(t, f, false)
			}
		}
	}
}

// origin calls Origin twice and fails the test unless it returns what is wanted.
func origin(t *testing.T, f api.Frame, want api.Vec) {
	t.Helper()
	before := f
	for range 2 {
		if got := frame.Origin(f); got != want {
			t.Errorf("Origin(%+v) = %v, want %v", f, got, want)
		}
	}
	if f != before {
		t.Errorf("Origin of %+v has changed the frame", before)
	}
}

// P12.1
func TestOrigin(t *testing.T) {
	origin(t, api.Frame{System: 54}, api.Vec{})
	origin(t, full(), at(1111, 2222, 3333))
	origin(t, api.Frame{System: 54, Local: at(1, 2, 3)}, at(1, 2, 3))
	origin(t, api.Frame{System: 54, Shift: at(1, 2, 3)}, at(1, 2, 3))
	origin(t, api.Frame{System: 54, Length: 7}, at(0, 0, 7))
	origin(t, api.Frame{System: 54, Length: -7, Local: at(1, 1, 1)}, at(1, 1, -6))
	// A rotation does not change it.
	for _, plane := range planes {
		origin(t, turned(full(), plane, 30000000, at(40, 50, 60)), at(1111, 2222, 3333))
	}
}

// P12.1: each of the six systems.
func TestOriginSystems(t *testing.T) {
	for i, want := range []api.Vec{at(1111, 2222, 3333), at(104, 230, 342), at(121, 211, 345), at(124, 236, 318), at(127, 239, 351), at(92, 202, 312)} {
		f := full()
		f.System = 54 + i
		origin(t, f, want)
		both(t, f, api.Vec{}, want)
		// All vectors but one.
		f.Systems = [6]api.Vec{}
		origin(t, f, at(111, 222, 333))
		f.Systems[i] = at(-111, -222, -333)
		origin(t, f, api.Vec{})
	}
}

// P12.1: all summands at the ends of their ranges.
func TestOriginEnds(t *testing.T) {
	for _, n := range []int{edge, -edge} {
		v := at(n, n, n)
		f := api.Frame{System: 59, Local: v, Shift: v, Length: n}
		f.Systems[5] = v
		valid(t, f, true)
		origin(t, f, at(3*n, 3*n, 4*n))
		f.Local = at(-n, -n, -n)
		origin(t, f, at(n, n, 2*n))
	}
}

// P12.1
func TestOriginIsTheSum(t *testing.T) {
	r := newRandom()
	for range 5000 {
		f := r.frame(edge)
		v := f.Systems[f.System-54]
		origin(t, f, at(v.X+f.Local.X+f.Shift.X, v.Y+f.Local.Y+f.Shift.Y, v.Z+f.Local.Z+f.Shift.Z+f.Length))
	}
}
