package frame_test

import (
	"math"
	"testing"

	"cnc/api"
	"cnc/cordic"
	"cnc/fixed"
	"cnc/frame"
)

// triple is a vector whose components are found by their numbers.
type triple [3]int

func list(v api.Vec) triple { return triple{v.X, v.Y, v.Z} }

func (v triple) vector() api.Vec { return at(v[0], v[1], v[2]) }

func (v triple) within(limit int) bool {
	for _, n := range v {
		if n > limit || n < -limit {
			return false
		}
	}
	return true
}

// axesOf returns the numbers of the first axis, the second axis and the height of each plane.
var axesOf = map[int][3]int{api.PlaneXY: {0, 1, 2}, api.PlaneZX: {2, 0, 1}, api.PlaneYZ: {1, 2, 0}}

// modelMove is To, and From if back is set, by the words of P12.2.
func modelMove(f api.Frame, p api.Vec, back bool) (api.Vec, api.Errno) {
	v, origin := list(p), list(f.Systems[f.System-54])
	for i := range origin {
		origin[i] += list(f.Local)[i] + list(f.Shift)[i]
	}
	origin[2] += f.Length
	if !v.within(edge) {
		return api.Vec{}, api.ErrRange
	}
	angle := f.Angle
	if back {
		angle = -angle
		for i := range v {
			v[i] -= origin[i]
		}
	}
	if f.Turned {
		axes, center := axesOf[f.Plane], list(f.Center)
		first, second := axes[0], axes[1]
		a, b, ok := cordic.Rotate(v[first]-center[first], v[second]-center[second], angle)
		if !ok {
			return api.Vec{}, api.ErrRange
		}
		v[first], v[second] = a+center[first], b+center[second]
	}
	if !back {
		for i := range v {
			v[i] += origin[i]
		}
	}
	if !v.within(edge) {
		return api.Vec{}, api.ErrRange
	}
	return v.vector(), api.OK
}

// P12.2
func TestMovesAreThoseOfTheModel(t *testing.T) {
	r := newRandom()
	done := 0
	for range 60000 {
		limit := []int{100, 10000, edge / 4, edge}[r.IntN(4)]
		f, p := r.frame(limit), r.vector(edge)
		if r.IntN(10) == 0 {
			p = r.vector(2 * edge)
		}
		want, err := modelMove(f, p, false)
		moves(t, "To", frame.To, f, p, want, err)
		if err == api.OK {
			done++
		}
		want, err = modelMove(f, p, true)
		moves(t, "From", frame.From, f, p, want, err)
		if err == api.OK {
			done++
		}
	}
	if done < 30000 {
		t.Errorf("only %d results were within the coordinates", done)
	}
}

// P12.2: the rotation is that of geometry, counterclockwise seen from the end of the height, within what layer 3 promises.
func TestMovesRotateLikeGeometry(t *testing.T) {
	r := newRandom()
	for range 10000 {
		f := turned(api.Frame{System: 54}, planes[r.IntN(3)], r.angle(), r.vector(edge/4))
		p := r.vector(edge / 4)
		v, center, axes := list(p), list(f.Center), axesOf[f.Plane]
		s, c := math.Sincos(float64(f.Angle) * math.Pi / (turn / 2))
		a, b := float64(v[axes[0]]-center[axes[0]]), float64(v[axes[1]]-center[axes[1]])
		v[axes[0]] = center[axes[0]] + int(math.Round(a*c-b*s))
		v[axes[1]] = center[axes[1]] + int(math.Round(a*s+b*c))
		got, err := frame.To(f, p)
		if err != api.OK || apart(got, v.vector()) > 2 || list(got)[axes[2]] != list(p)[axes[2]] {
			t.Errorf("To(%+v, %v) = %v, %d, want about %v", f, p, got, err, v)
		}
	}
}

// modelTarget is Target by the words of P12.3.
func modelTarget(m api.Modal, l []api.Value, p api.Vec) (api.Vec, bool, api.Errno) {
	if !list(p).within(edge) {
		return api.Vec{}, false, api.ErrArg
	}
	numbers := map[int]int{} // of each axis that has a word
	for i := len(l) - 1; i >= 0; i-- {
		if axis := l[i].Letter - 'X'; axis >= 0 && axis < 3 {
			numbers[axis] = l[i].N
		}
	}
	axes := axesOf[m.Plane]
	for axis := range 3 {
		if m.Polar == 16 && axis == axes[1] {
			continue
		}
		if n, ok := numbers[axis]; ok {
			length, err := fixed.Length(n, m.Units)
			if err != api.OK {
				return api.Vec{}, false, err
			}
			numbers[axis] = length
		}
	}
	target := list(p)
	put := func(axis, n int) {
		if m.Distance == 91 {
			n += target[axis]
		}
		target[axis] = n
	}
	plain := axes[:]
	if m.Polar == 16 {
		plain = axes[2:]
		radius, hasRadius := numbers[axes[0]]
		angle, hasAngle := numbers[axes[1]]
		if hasRadius && hasAngle {
			first, second, _ := cordic.Rotate(radius, 0, angle)
			put(axes[0], first)
			put(axes[1], second)
		} else if hasRadius || hasAngle {
			return api.Vec{}, false, api.ErrMissing
		}
	}
	for _, axis := range plain {
		if n, ok := numbers[axis]; ok {
			put(axis, n)
		}
	}
	if !target.within(edge) {
		return api.Vec{}, false, api.ErrRange
	}
	return target.vector(), len(numbers) > 0, api.OK
}

// word returns a random word, mostly of an axis.
func (r random) word() api.Value {
	letter := int("XYZXYZXYZXYZIGz"[r.IntN(15)])
	switch r.IntN(12) {
	case 0:
		return api.Value{Letter: letter, N: []int{0, top, -top, top + 1, most, least, 90 * one, -45 * one}[r.IntN(8)]}
	case 1:
		return api.Value{Letter: letter, N: r.number(1100 * one)}
	}
	return api.Value{Letter: letter, N: r.number(400 * one)}
}

// P12.3
func TestTargetsAreThoseOfTheModel(t *testing.T) {
	r := newRandom()
	found := map[api.Errno]int{}
	for range 100000 {
		m := api.Modal{Plane: planes[r.IntN(3)], Distance: 90 + r.IntN(2), Units: 20 + r.IntN(2), Polar: 15 + r.IntN(2)}
		if r.IntN(30) == 0 {
			m.Units = []int{0, 19, 22}[r.IntN(3)]
		}
		var l []api.Value
		for range r.IntN(6) {
			l = append(l, r.word())
		}
		p := r.vector(edge)
		if r.IntN(30) == 0 {
			p = r.vector(2 * edge)
		}
		want, any, err := modelTarget(m, l, p)
		aims(t, m, l, p, want, any, err)
		found[err]++
	}
	for _, err := range []api.Errno{api.OK, api.ErrArg, api.ErrMissing, api.ErrRange} {
		if found[err] < 1000 {
			t.Errorf("only %d blocks had the error %d", found[err], err)
		}
	}
}

// P12.3: the other fields of the modal state have no effect.
func TestTargetReadsFourFields(t *testing.T) {
	r := newRandom()
	for range 5000 {
		m := api.Modal{Plane: planes[r.IntN(3)], Distance: 90 + r.IntN(2), Units: 20 + r.IntN(2), Polar: 15 + r.IntN(2)}
		l, p := []api.Value{r.word(), r.word(), r.word()}, r.vector(edge)
		want, any, err := frame.Target(m, l, p)
		full := api.Modal{
			Motion: r.IntN(90), Feeding: 95, Cutter: 41, Length: 43, Return: 99, System: 59, Path: 64, Turning: 68, Spindle: 3, Mist: true, Flood: true,
			Blend: 7, Feed: 8, Speed: 9, Tool: 10, Loaded: 11, H: 12, D: 13, Plane: m.Plane, Distance: m.Distance, Units: m.Units, Polar: m.Polar,
		}
		aims(t, full, l, p, want, any, err)
	}
}
