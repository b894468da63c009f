package vec

import (
	"math"
	"math/rand/v2"
	"testing"

	"cnc/api"
)

const (
	most  = math.MaxInt
	least = math.MinInt
	edge  = 4 * api.MaxCoord // the greatest component of a small vector
)

var modes = []int{api.Down, api.Up, api.Near}

var noModes = []int{-1, 3, 17, most, least}

var planes = []int{api.PlaneXY, api.PlaneZX, api.PlaneYZ}

var noPlanes = []int{-17, -1, 0, 1, 2, 3, 16, 20, 1<<32 + 17, most, least}

// far are components that are not small.
var far = []int{edge + 1, -edge - 1, 1 << 31, -1 << 31, 3037000500, 1 << 32, -1 << 32, 1 << 62, -1 << 62, most, -most, least}

// small are components at which a result may change its sign, its length or its rest.
var small = []int{0, 1, -1, 2, -3, 5, api.MaxCoord, -api.MaxCoord, api.MaxCoord + 1, 1 - edge, edge, -edge}

// triples returns all vectors of the components in list.
func triples(list []int) []api.Vec {
	var all []api.Vec
	for _, x := range list {
		for _, y := range list {
			for _, z := range list {
				all = append(all, api.Vec{X: x, Y: y, Z: z})
			}
		}
	}
	return all
}

// samples returns small vectors of all lengths and directions, the same ones in every run.
func samples(count int) []api.Vec {
	source := rand.New(rand.NewPCG(5, 6))
	draw := func() int {
		return (int(source.Uint64()) >> (40 + source.IntN(23))) % (edge + 1)
	}
	list := make([]api.Vec, count)
	for i := range list {
		list[i] = api.Vec{X: draw(), Y: draw(), Z: draw()}
	}
	return list
}

// smallVectors returns the triples of small and some samples.
func smallVectors() []api.Vec {
	return append(triples(small), samples(3000)...)
}

// rounds reports whether n is the square root of square, rounded by mode, by the definition of each mode and with squares only.
func rounds(n, square, mode int) bool {
	switch mode {
	case api.Down:
		return n >= 0 && n*n <= square && square < (n+1)*(n+1)
	case api.Up:
		return n == 0 && square == 0 || n > 0 && (n-1)*(n-1) < square && square <= n*n
	}
	// The root is at least n - 1/2 and less than n + 1/2.
	return n == 0 && square == 0 || n > 0 && (2*n-1)*(2*n-1) <= 4*square && 4*square < (2*n+1)*(2*n+1)
}

// checkLength fails the test unless Length returns want and true.
func checkLength(t *testing.T, v api.Vec, mode, want int) {
	t.Helper()
	if n, ok := Length(v, mode); n != want || !ok {
		t.Errorf("Length(%v, %d) = %d, %v, want %d, true", v, mode, n, ok, want)
	}
}

// checkFlat fails the test unless Flat returns the values that are wanted and true.
func checkFlat(t *testing.T, plane int, v api.Vec, want api.Pt, wantHeight int) {
	t.Helper()
	if p, height, ok := Flat(plane, v); p != want || height != wantHeight || !ok {
		t.Errorf("Flat(%d, %v) = %v, %d, %v, want %v, %d, true", plane, v, p, height, ok, want, wantHeight)
	}
}

// checkSolid fails the test unless Solid returns want and true.
func checkSolid(t *testing.T, plane int, p api.Pt, height int, want api.Vec) {
	t.Helper()
	if v, ok := Solid(plane, p, height); v != want || !ok {
		t.Errorf("Solid(%d, %v, %d) = %v, %v, want %v, true", plane, p, height, v, ok, want)
	}
}

// refusesPlane fails the test unless Flat and Solid return zero values and false.
func refusesPlane(t *testing.T, plane int, v api.Vec) {
	t.Helper()
	if p, height, ok := Flat(plane, v); p != (api.Pt{}) || height != 0 || ok {
		t.Errorf("Flat(%d, %v) = %v, %d, %v, want zero values", plane, v, p, height, ok)
	}
	if w, ok := Solid(plane, api.Pt{U: v.X, W: v.Y}, v.Z); w != (api.Vec{}) || ok {
		t.Errorf("Solid(%d, {%d %d}, %d) = %v, %v, want zero values", plane, v.X, v.Y, v.Z, w, ok)
	}
}
