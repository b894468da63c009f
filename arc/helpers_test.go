package arc_test

import (
	"math"
	"math/rand/v2"
	"testing"

	"cnc/api"
	"cnc/arc"
)

const (
	most  = math.MaxInt
	least = math.MinInt
	edge  = api.MaxCoord
	reach = 4 * edge // the greatest distance of Offset, and the greatest component of a direction
)

var planes = []int{api.PlaneXY, api.PlaneZX, api.PlaneYZ}

var noPlanes = []int{-17, -1, 0, 1, 2, 3, 16, 20, 1<<32 + 17, most, least}

var noDirs = []int{0, 2, -2, 3, 1<<32 + 1, most, -most, least}

var noRadii = []int{0, 1, -1, api.MinArc - 1, 1 - api.MinArc, edge + 1, -edge - 1, 1 << 32, -1 << 32, 1 << 62, most, -most, least}

// beyond are numbers whose absolute value is greater than api.MaxCoord.
var beyond = []int{edge + 1, -edge - 1, 2 * edge, reach, reach + 1, -1 << 31, 1<<32 + 1, -1 << 62, most, -most, least, least + 1}

// others are the kinds of items that are no arcs, and numbers that are no kinds.
var others = []int{api.ItemRapid, api.ItemLine, api.ItemProbe, api.ItemThread, api.ItemTap, api.ItemDwell, api.ItemSpindle, api.ItemCoolant, api.ItemOutput, api.ItemTool, api.ItemStop, api.ItemOptional, api.ItemEnd, 0, -1, -3, 15, most, least}

func at(x, y, z int) api.Vec { return api.Vec{X: x, Y: y, Z: z} }

func pt(u, w int) api.Pt { return api.Pt{U: u, W: w} }

// solid returns the vector with a position in a plane and a height, by the words of chapter 4.
func solid(plane int, p api.Pt, height int) api.Vec {
	switch plane {
	case api.PlaneXY:
		return at(p.U, p.W, height)
	case api.PlaneZX:
		return at(p.W, height, p.U)
	}
	return at(height, p.U, p.W)
}

// flat returns the position of a vector in a plane and its height.
func flat(plane int, v api.Vec) (api.Pt, int) {
	switch plane {
	case api.PlaneXY:
		return pt(v.X, v.Y), v.Z
	case api.PlaneZX:
		return pt(v.Z, v.X), v.Y
	}
	return pt(v.Y, v.Z), v.X
}

// around returns an arc about the origin of the plane with these spokes; its heights are 0.
func around(plane, dir int, first, last api.Pt) api.Item {
	return api.Item{Kind: api.ItemArc, Plane: plane, Dir: dir, From: solid(plane, first, 0), To: solid(plane, last, 0)}
}

// fullAround returns a full arc about the origin of the plane.
func fullAround(plane, dir int, first api.Pt) api.Item {
	it := around(plane, dir, first, first)
	it.Full = true
	return it
}

// moved returns an item with From, To and Center moved by a vector.
func moved(it api.Item, by api.Vec) api.Item {
	for _, v := range vectors(&it) {
		*v = at(v.X+by.X, v.Y+by.Y, v.Z+by.Z)
	}
	return it
}

// busy returns an item with all the fields set that this layer has nothing to do with.
func busy(it api.Item) api.Item {
	it.Block, it.Feed, it.PerRev, it.Side, it.Radius, it.Blend, it.N, it.Speed, it.On = -7, least, true, 5, most, -3, 12, 1<<40, true
	return it
}

// vectors returns the vectors of an item.
func vectors(it *api.Item) []*api.Vec { return []*api.Vec{&it.From, &it.To, &it.Center} }

// components returns the components of a vector.
func components(v *api.Vec) []*int { return []*int{&v.X, &v.Y, &v.Z} }

// centers calls Offset twice and fails the test unless it has the wanted results.
func centers(t *testing.T, plane int, from api.Vec, i, j, k int, want api.Vec, wantErr api.Errno) {
	t.Helper()
	for range 2 {
		if got, err := arc.Offset(plane, from, i, j, k); got != want || err != wantErr {
			t.Errorf("Offset(%d, %v, %d, %d, %d) = %v, %d, want %v, %d", plane, from, i, j, k, got, err, want, wantErr)
		}
	}
}

// noOffset fails the test unless Offset has the wanted error.
func noOffset(t *testing.T, plane int, from api.Vec, i, j, k int, want api.Errno) {
	t.Helper()
	centers(t, plane, from, i, j, k, api.Vec{}, want)
}

// bends calls Radius twice and fails the test unless it has the wanted results.
func bends(t *testing.T, plane int, from, to api.Vec, dir, r int, want api.Vec, wantErr api.Errno) {
	t.Helper()
	for range 2 {
		if got, err := arc.Radius(plane, from, to, dir, r); got != want || err != wantErr {
			t.Errorf("Radius(%d, %v, %v, %d, %d) = %v, %d, want %v, %d", plane, from, to, dir, r, got, err, want, wantErr)
		}
	}
}

// noRadius fails the test unless Radius has the wanted error.
func noRadius(t *testing.T, plane int, from, to api.Vec, dir, r int, want api.Errno) {
	t.Helper()
	bends(t, plane, from, to, dir, r, api.Vec{}, want)
}

// bendsInPlanes fails the test unless Radius has the wanted center in every plane, whatever the heights are, and with the other direction and the other sign of r.
func bendsInPlanes(t *testing.T, from, to api.Pt, dir, r int, want api.Pt) {
	t.Helper()
	for _, plane := range planes {
		for _, h := range [][2]int{{0, 0}, {5, -7000}, {-edge, edge}} {
			start, end, center := solid(plane, from, h[0]), solid(plane, to, h[1]), solid(plane, want, h[0])
			bends(t, plane, start, end, dir, r, center, api.OK)
			bends(t, plane, start, end, -dir, -r, center, api.OK)
		}
	}
}

// noRadiusInPlanes fails the test unless Radius has the wanted error in every plane.
func noRadiusInPlanes(t *testing.T, from, to api.Pt, dir, r int, want api.Errno) {
	t.Helper()
	for _, plane := range planes {
		noRadius(t, plane, solid(plane, from, 5), solid(plane, to, -6), dir, r, want)
		noRadius(t, plane, solid(plane, from, edge), solid(plane, to, -edge), -dir, -r, want)
	}
}

// checks calls Check twice and fails the test unless it returns what is wanted.
func checks(t *testing.T, it api.Item, want api.Errno) {
	t.Helper()
	for range 2 {
		if got := arc.Check(it); got != want {
			t.Errorf("Check(%+v) = %d, want %d", it, got, want)
		}
	}
}

// checksSpokes fails the test unless Check returns what is wanted for an arc with these spokes, and with the spokes exchanged, in every plane and with both directions.
func checksSpokes(t *testing.T, full bool, first, last api.Pt, want api.Errno) {
	t.Helper()
	for _, plane := range planes {
		for _, dir := range []int{1, -1} {
			for _, it := range []api.Item{around(plane, dir, first, last), around(plane, dir, last, first)} {
				it.Full = full
				checks(t, it, want)
				checks(t, busy(moved(it, at(-5, 70, 900))), want)
			}
		}
	}
}

// holds fails the test unless Inside returns what is wanted.
func holds(t *testing.T, it api.Item, p api.Pt, want bool) {
	t.Helper()
	for range 2 {
		if got := arc.Inside(it, p); got != want {
			t.Errorf("Inside(%+v, %v) = %v, want %v", it, p, got, want)
		}
	}
}

// heads fails the test unless Tangent returns what is wanted at both ends.
func heads(t *testing.T, it api.Item, begin, end api.Pt) {
	t.Helper()
	for range 2 {
		if got := arc.Tangent(it, false); got != begin {
			t.Errorf("Tangent(%+v, false) = %v, want %v", it, got, begin)
		}
		if got := arc.Tangent(it, true); got != end {
			t.Errorf("Tangent(%+v, true) = %v, want %v", it, got, end)
		}
	}
}

// spans fails the test unless Extent returns what is wanted.
func spans(t *testing.T, it api.Item, low, high api.Vec) {
	t.Helper()
	for range 2 {
		if gotLow, gotHigh := arc.Extent(it); gotLow != low || gotHigh != high {
			t.Errorf("Extent(%+v) = %v, %v, want %v, %v", it, gotLow, gotHigh, low, high)
		}
	}
}

// random is a source of the same values in every run.
type random struct{ *rand.Rand }

func newRandom() random { return random{rand.New(rand.NewPCG(13, 13))} }

// number returns a number of any size with an absolute value of at most limit.
func (r random) number(limit int) int {
	if r.IntN(6) == 0 {
		return []int{0, 1, -1, limit, -limit, 1 - limit}[r.IntN(6)]
	}
	return (int(r.Uint64()) >> (30 + r.IntN(32))) % (limit + 1)
}

func (r random) vector(limit int) api.Vec {
	return at(r.number(limit), r.number(limit), r.number(limit))
}

func (r random) point(limit int) api.Pt { return pt(r.number(limit), r.number(limit)) }

func (r random) plane() int { return planes[r.IntN(3)] }

// dir returns one of the directions of an arc.
func (r random) dir() int { return 1 - 2*r.IntN(2) }

// radius returns a radius of any size and sign.
func (r random) radius() int {
	n := api.MinArc + (int(r.Uint64()>>1)>>(43+r.IntN(18)))%(edge-api.MinArc+1)
	if r.IntN(12) == 0 {
		n = []int{api.MinArc, edge}[r.IntN(2)]
	}
	return n * r.dir()
}

// spoke returns a vector of about a length, often along an axis or a diagonal.
func (r random) spoke(length float64) api.Pt {
	angle := r.Float64() * 2 * math.Pi
	if r.IntN(3) == 0 {
		angle = float64(r.IntN(8)) * math.Pi / 4
	}
	return pt(int(math.Round(length*math.Cos(angle))), int(math.Round(length*math.Sin(angle))))
}

// sized returns an arc item of a random plane and direction with spokes of about the same length, which need not pass Check.
func (r random) sized(length float64) api.Item {
	first := r.spoke(length)
	last := r.spoke(length + 12*r.Float64() - 6)
	switch r.IntN(12) {
	case 0:
		last = pt(-first.U, -first.W)
	case 1:
		last = pt(first.W, -first.U)
	case 2:
		last = pt(first.U+r.IntN(3)-1, first.W+r.IntN(3)-1)
	}
	full := r.IntN(6) == 0
	if full && r.IntN(6) > 0 {
		last = first
	}
	it := around(r.plane(), r.dir(), first, last)
	it.Full = full
	if r.IntN(2) == 0 {
		it.To = solid(it.Plane, last, r.number(edge))
	}
	return it
}

// length returns a length of a spoke, of any size.
func (r random) length() float64 {
	return 6 + math.Exp(r.Float64()*math.Log(edge))
}

// arc returns an arc that passes Check by the model, somewhere within the coordinates.
func (r random) arc() api.Item {
	for {
		it := moved(r.sized(r.length()), r.vector(edge))
		if modelCheck(it) == api.OK {
			return it
		}
	}
}
