package drill_test

import (
	"math"
	"math/rand/v2"
	"slices"
	"strconv"
	"strings"
	"testing"

	"cnc/api"
	"cnc/drill"
)

const (
	most  = math.MaxInt
	least = math.MinInt
	edge  = api.MaxCoord
	gap   = api.PeckGap
)

var cycles = []int{73, 74, 81, 82, 83, 84, 85, 86, 89}

var pecking = []int{73, 83}

// notPecking are the cycles without pecks.
var notPecking = []int{74, 81, 82, 84, 85, 86, 89}

var planes = []int{api.PlaneXY, api.PlaneZX, api.PlaneYZ}

var returns = []int{98, 99}

var noCycles = []int{0, 1, 3, 33, 72, 75, 80, 87, 88, 90, 98, -73, -81, -89, 81000000, 1<<32 + 81, most, least}

var noPlanes = []int{-17, -1, 0, 1, 2, 3, 16, 20, 1<<32 + 17, most, least}

var noReturns = []int{97, 100, 0, 1, -98, -99, 1<<32 + 98, most, least}

var noSpindles = []int{2, 6, 0, 1, -3, -4, -5, 1<<32 + 3, most, least}

var noDwells = []int{-1, api.MaxDwell + 1, 1 << 32, -1 << 32, most, least}

var noSpeeds = []int{-1, api.MaxSpindle + 1, 1 << 32, -1 << 32, most, least}

// noPecks are depths of a peck with which nothing is pecked.
var noPecks = []int{0, -1, -2, -gap, -1 << 32, -most, least}

// beyond are numbers whose absolute value is greater than api.MaxCoord.
var beyond = []int{edge + 1, -edge - 1, 2 * edge, 4*edge + 1, -1 << 31, 1<<32 + 1, -1 << 62, most, -most, least, least + 1}

// The positions in the plane before a cycle and of its place.
var (
	before = api.Pt{U: 7, W: -8}
	place  = api.Pt{U: 10, W: 20}
)

func at(x, y, z int) api.Vec { return api.Vec{X: x, Y: y, Z: z} }

// solid returns the vector with a position in a plane and a height, by the words of chapter 4.
func solid(plane int, p api.Pt, height int) api.Vec {
	switch plane {
	case api.PlaneXY:
		return at(p.U, p.W, height)
	case api.PlaneZX:
		return at(p.W, height, p.U)
	}
	return at(height, p.U, p.W)
}

// flat returns the position of a vector in a plane and its height.
func flat(plane int, v api.Vec) (api.Pt, int) {
	switch plane {
	case api.PlaneXY:
		return api.Pt{U: v.X, W: v.Y}, v.Z
	case api.PlaneZX:
		return api.Pt{U: v.Z, W: v.X}, v.Y
	}
	return api.Pt{U: v.Y, W: v.Z}, v.X
}

// components returns the components of a vector.
func components(v *api.Vec) []*int { return []*int{&v.X, &v.Y, &v.Z} }

// heights returns the three heights of a cycle.
func heights(c *api.Drill) []*int { return []*int{&c.Retract, &c.Bottom, &c.Initial} }

// spindleOf returns a code of the spindle that a cycle allows.
func spindleOf(code int) int {
	if code == 74 {
		return 4
	}
	return 3
}

// valid returns a cycle without an error, from above the retract plane.
func valid(code, plane int) api.Drill {
	return api.Drill{
		Code: code, Plane: plane, From: solid(plane, before, 2000), At: solid(plane, place, 999),
		Retract: 1000, Bottom: -5000, Initial: 3000, Peck: 2500, Dwell: 30, Return: 99, Spindle: spindleOf(code), Speed: 800,
	}
}

// all returns the cycle of valid with each code and each plane.
func all() []api.Drill {
	var list []api.Drill
	for _, code := range cycles {
		for _, plane := range planes {
			list = append(list, valid(code, plane))
		}
	}
	return list
}

// with returns a cycle that change has changed.
func with(c api.Drill, change func(*api.Drill)) api.Drill {
	change(&c)
	return c
}

// from returns a cycle that begins at another height.
func from(c api.Drill, height int) api.Drill {
	c.From = solid(c.Plane, before, height)
	return c
}

// steps returns the steps of a text, with heights in the plane of a cycle: r over before, R and L over the place, T with the spindle behind the height, D, and S with the speed behind the code.
func steps(c api.Drill, text string) []api.Item {
	var list []api.Item
	for _, s := range strings.Fields(text) {
		first, second, _ := strings.Cut(s[1:], ",")
		n, m := integer(first), 0
		if second != "" {
			m = integer(second)
		}
		to := solid(c.Plane, place, n)
		switch s[0] {
		case 'r':
			list = append(list, api.Item{Kind: api.ItemRapid, To: solid(c.Plane, before, n)})
		case 'R':
			list = append(list, api.Item{Kind: api.ItemRapid, To: to})
		case 'L':
			list = append(list, api.Item{Kind: api.ItemLine, To: to})
		case 'T':
			list = append(list, api.Item{Kind: api.ItemTap, To: to, N: m})
		case 'D':
			list = append(list, api.Item{Kind: api.ItemDwell, N: n})
		case 'S':
			list = append(list, api.Item{Kind: api.ItemSpindle, N: n, Speed: m})
		default:
			panic(s)
		}
	}
	return list
}

func integer(s string) int {
	n, err := strconv.Atoi(s)
	if err != nil {
		panic(err)
	}
	return n
}

// expands calls Expand and Heights twice, spoils the first steps, and fails the test unless both have the wanted results and Check returns OK.
func expands(t *testing.T, c api.Drill, want []api.Item, height, pecks int) {
	t.Helper()
	if err := drill.Check(c); err != api.OK {
		t.Errorf("Check(%+v) = %d, want 0", c, err)
	}
	for range 2 {
		got, err := drill.Expand(c)
		if !slices.Equal(got, want) || err != api.OK {
			t.Errorf("Expand(%+v) = %v, %d, want %v, 0", c, brief(got), err, brief(want))
		}
		for i := range got {
			got[i] = api.Item{Kind: -1, N: least}
		}
		if h, n, ok := drill.Heights(c); h != height || n != pecks || !ok {
			t.Errorf("Heights(%+v) = %d, %d, %v, want %d, %d, true", c, h, n, ok, height, pecks)
		}
	}
}

// brief returns a long list without its middle.
func brief(l []api.Item) []api.Item {
	if len(l) > 40 {
		return append(slices.Clone(l[:20]), l[len(l)-20:]...)
	}
	return l
}

// leads fails the test unless a cycle has the steps of a text, the return height and the number of pecks.
func leads(t *testing.T, c api.Drill, text string, height, pecks int) {
	t.Helper()
	expands(t, c, steps(c, text), height, pecks)
}

// accepted fails the test unless a cycle has no error.
func accepted(t *testing.T, c api.Drill) {
	t.Helper()
	if err := drill.Check(c); err != api.OK {
		t.Errorf("Check(%+v) = %d, want 0", c, err)
	}
	if l, err := drill.Expand(c); len(l) == 0 || err != api.OK {
		t.Errorf("Expand(%+v) = %v, %d, want steps and 0", c, brief(l), err)
	}
	if _, n, ok := drill.Heights(c); n < 1 || !ok {
		t.Errorf("Heights(%+v) has %d pecks and %v, want pecks and true", c, n, ok)
	}
}

// refused fails the test unless a cycle has the wanted error, and nothing else.
func refused(t *testing.T, c api.Drill, want api.Errno) {
	t.Helper()
	for range 2 {
		if err := drill.Check(c); err != want {
			t.Errorf("Check(%+v) = %d, want %d", c, err, want)
		}
		if l, err := drill.Expand(c); len(l) != 0 || err != want {
			t.Errorf("Expand(%+v) = %v, %d, want no steps and %d", c, brief(l), err, want)
		}
		if h, n, ok := drill.Heights(c); h != 0 || n != 0 || ok {
			t.Errorf("Heights(%+v) = %d, %d, %v, want 0, 0, false", c, h, n, ok)
		}
	}
}

// random is a source of the same values in every run.
type random struct{ *rand.Rand }

func newRandom() random { return random{rand.New(rand.NewPCG(14, 14))} }

// number returns a number of any size with an absolute value of at most limit.
func (r random) number(limit int) int {
	if r.IntN(6) == 0 {
		return []int{0, 1, -1, limit, -limit, 1 - limit}[r.IntN(6)]
	}
	return (int(r.Uint64()) >> (30 + r.IntN(32))) % (limit + 1)
}

func (r random) vector(limit int) api.Vec {
	return at(r.number(limit), r.number(limit), r.number(limit))
}

// of returns one of the elements of a list.
func (r random) of(list []int) int { return list[r.IntN(len(list))] }

// drill returns a cycle whose fields are in their ranges; the spindle may be wrong for its code, and the pecks too many.
func (r random) drill() api.Drill {
	c := api.Drill{
		Code: r.of(cycles), Plane: r.of(planes), From: r.vector(edge), At: r.vector(edge), Initial: r.number(edge),
		Dwell: r.IntN(api.MaxDwell + 1), Return: r.of(returns), Speed: r.IntN(api.MaxSpindle + 1),
	}
	for c.Bottom >= c.Retract {
		c.Retract, c.Bottom = r.number(edge), r.number(edge)
	}
	c.Peck = (c.Retract-c.Bottom)/r.pecks() + r.IntN(3)
	c.Spindle = spindleOf(c.Code)
	if r.IntN(4) == 0 {
		c.Spindle = 3 + r.IntN(3)
	}
	return c
}

// pecks returns a number of pecks, mostly a low one, or about the greatest one.
func (r random) pecks() int {
	if r.IntN(8) == 0 {
		return 990 + r.IntN(40)
	}
	return 1 + r.IntN(30)
}
