package frame_test

import (
	"math"
	"math/rand/v2"
	"slices"
	"strconv"
	"strings"
	"testing"

	"cnc/api"
	"cnc/fixed"
	"cnc/frame"
)

const (
	most  = math.MaxInt
	least = math.MinInt
	edge  = api.MaxCoord
	one   = api.Million
	top   = api.MaxNum // the greatest valid number
	turn  = api.FullTurn
)

var planes = []int{api.PlaneXY, api.PlaneZX, api.PlaneYZ}

// beyond are numbers whose absolute value is greater than api.MaxCoord.
var beyond = []int{edge + 1, -edge - 1, 2 * edge, 4*edge + 1, -1 << 31, 1<<32 + 1, -1 << 62, most, -most, least, least + 1}

func at(x, y, z int) api.Vec { return api.Vec{X: x, Y: y, Z: z} }

// vectors returns the vectors of a frame.
func vectors(f *api.Frame) []*api.Vec {
	list := []*api.Vec{&f.Local, &f.Shift, &f.Center}
	for i := range f.Systems {
		list = append(list, &f.Systems[i])
	}
	return list
}

// components returns the components of a vector.
func components(v *api.Vec) []*int { return []*int{&v.X, &v.Y, &v.Z} }

// full returns a valid frame that is not Turned, with all summands of the origin (1111, 2222, 3333).
func full() api.Frame {
	return api.Frame{
		Systems: [6]api.Vec{at(1000, 2000, 3000), at(-7, 8, 9), at(10, -11, 12), at(13, 14, -15), at(16, 17, 18), at(-19, -20, -21)},
		System:  54, Local: at(100, 200, 300), Shift: at(11, 22, 30), Length: 3,
	}
}

// turned returns a frame with a rotation that is otherwise f.
func turned(f api.Frame, plane, angle int, center api.Vec) api.Frame {
	f.Turned, f.Plane, f.Angle, f.Center = true, plane, angle, center
	return f
}

// valid calls Valid twice and fails the test unless it returns what is wanted.
func valid(t *testing.T, f api.Frame, want bool) {
	t.Helper()
	for range 2 {
		if got := frame.Valid(f); got != want {
			t.Errorf("Valid(%+v) = %v, want %v", f, got, want)
		}
	}
}

// moves fails the test unless move, which is To or From, has the wanted results each time and f stays as it is.
func moves(t *testing.T, name string, move func(api.Frame, api.Vec) (api.Vec, api.Errno), f api.Frame, p, want api.Vec, wantErr api.Errno) {
	t.Helper()
	before := f
	for range 2 {
		if got, err := move(f, p); got != want || err != wantErr {
			t.Errorf("%s(%+v, %v) = %v, %d, want %v, %d", name, f, p, got, err, want, wantErr)
		}
	}
	if f != before {
		t.Errorf("%s of %+v has changed the frame", name, before)
	}
}

func to(t *testing.T, f api.Frame, p, want api.Vec) {
	t.Helper()
	moves(t, "To", frame.To, f, p, want, api.OK)
}

func from(t *testing.T, f api.Frame, p, want api.Vec) {
	t.Helper()
	moves(t, "From", frame.From, f, p, want, api.OK)
}

// both fails the test unless To leads from p to q and From back.
func both(t *testing.T, f api.Frame, p, q api.Vec) {
	t.Helper()
	to(t, f, p, q)
	from(t, f, q, p)
}

func noTo(t *testing.T, f api.Frame, p api.Vec) {
	t.Helper()
	moves(t, "To", frame.To, f, p, api.Vec{}, api.ErrRange)
}

func noFrom(t *testing.T, f api.Frame, p api.Vec) {
	t.Helper()
	moves(t, "From", frame.From, f, p, api.Vec{}, api.ErrRange)
}

// block returns the values of a text of words with spaces between them.
func block(text string) []api.Value {
	var list []api.Value
	for _, s := range strings.Fields(text) {
		digits, negative := strings.CutPrefix(s[1:], "-")
		n, err := fixed.Parse(digits)
		if err != api.OK {
			panic(s)
		}
		if negative {
			n = -n
		}
		list = append(list, api.Value{Letter: int(s[0]), N: n})
	}
	return list
}

// shown writes values with their letters and their numbers in millionths.
func shown(l []api.Value) string {
	var words []string
	for _, v := range l {
		words = append(words, strconv.QuoteRune(rune(v.Letter))+" "+strconv.Itoa(v.N))
	}
	return "[" + strings.Join(words, ", ") + "]"
}

// aims calls Target twice and fails the test unless it has the wanted results and l stays as it is.
func aims(t *testing.T, m api.Modal, l []api.Value, p, want api.Vec, wantAny bool, wantErr api.Errno) {
	t.Helper()
	before, state := slices.Clone(l), m
	for range 2 {
		if got, any, err := frame.Target(m, l, p); got != want || any != wantAny || err != wantErr {
			t.Errorf("Target(G%d G%d G%d G%d, %s, %v) = %v, %v, %d, want %v, %v, %d", m.Plane, m.Units, m.Distance, m.Polar, shown(before), p, got, any, err, want, wantAny, wantErr)
		}
	}
	if !slices.Equal(l, before) || m != state {
		t.Errorf("Target of %s has changed its arguments", shown(before))
	}
}

// leads fails the test unless a block leads from p to want, in every order of its values.
func leads(t *testing.T, m api.Modal, text string, p, want api.Vec) {
	t.Helper()
	for _, l := range orders(block(text)) {
		aims(t, m, l, p, want, true, api.OK)
	}
}

// stays fails the test unless a block has none of the words, and no error.
func stays(t *testing.T, m api.Modal, text string, p api.Vec) {
	t.Helper()
	aims(t, m, block(text), p, p, false, api.OK)
}

// refused fails the test unless a block has the wanted error and nothing else, in every order of its values.
func refused(t *testing.T, m api.Modal, text string, p api.Vec, want api.Errno) {
	t.Helper()
	refusedValues(t, m, block(text), p, want)
}

func refusedValues(t *testing.T, m api.Modal, l []api.Value, p api.Vec, want api.Errno) {
	t.Helper()
	for _, o := range orders(l) {
		aims(t, m, o, p, api.Vec{}, false, want)
	}
}

// orders returns a list in all orders.
func orders(l []api.Value) [][]api.Value {
	if len(l) == 0 {
		return [][]api.Value{nil}
	}
	var found [][]api.Value
	for i, v := range l {
		for _, rest := range orders(slices.Delete(slices.Clone(l), i, i+1)) {
			found = append(found, append([]api.Value{v}, rest...))
		}
	}
	return found
}

// random is a source of the same values in every run.
type random struct{ *rand.Rand }

func newRandom() random { return random{rand.New(rand.NewPCG(12, 12))} }

// number returns a number of any size with an absolute value of at most limit.
func (r random) number(limit int) int {
	if r.IntN(6) == 0 {
		return []int{0, 1, -1, limit, -limit, 1 - limit}[r.IntN(6)]
	}
	return (int(r.Uint64()) >> (30 + r.IntN(32))) % (limit + 1)
}

func (r random) vector(limit int) api.Vec {
	return at(r.number(limit), r.number(limit), r.number(limit))
}

// angle returns an angle of a rotation, often a multiple of 45 degrees.
func (r random) angle() int {
	if r.IntN(3) == 0 {
		return r.IntN(8) * turn / 8
	}
	return r.IntN(turn)
}

// frame returns a valid frame with vectors of at most limit.
func (r random) frame(limit int) api.Frame {
	f := api.Frame{System: 54 + r.IntN(6), Local: r.vector(limit), Shift: r.vector(limit), Length: r.number(limit)}
	for i := range f.Systems {
		f.Systems[i] = r.vector(limit)
	}
	if r.IntN(3) > 0 {
		f = turned(f, planes[r.IntN(3)], r.angle(), r.vector(limit))
	}
	return f
}
