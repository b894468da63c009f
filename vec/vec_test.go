package vec

import (
	"math/big"
	"slices"
	"testing"

	"cnc/api"
)

// P4.1
func TestWithinOfOneComponent(t *testing.T) {
	for _, x := range []struct {
		n    int
		want bool
	}{
		{0, true}, {1, true}, {-1, true}, {api.MaxCoord - 1, true}, {api.MaxCoord, true}, {1 - api.MaxCoord, true}, {-api.MaxCoord, true},
		{api.MaxCoord + 1, false}, {-api.MaxCoord - 1, false}, {edge, false}, {-edge, false}, {1 << 32, false}, {-1 << 32, false},
		{most, false}, {-most, false}, {least, false}, {least + 1, false}, {least + api.MaxCoord, false},
	} {
		for _, v := range []api.Vec{{X: x.n}, {Y: x.n}, {Z: x.n}, {X: x.n, Y: x.n, Z: x.n}} {
			if got := Within(v); got != x.want {
				t.Errorf("Within(%v) = %v, want %v", v, got, x.want)
			}
		}
	}
}

// P4.1
func TestWithinWantsAllComponents(t *testing.T) {
	inside := []int{0, -7, api.MaxCoord, -api.MaxCoord}
	outside := []int{api.MaxCoord + 1, -api.MaxCoord - 1, edge, most, least}
	for _, v := range triples(append(outside, inside...)) {
		want := slices.Contains(inside, v.X) && slices.Contains(inside, v.Y) && slices.Contains(inside, v.Z)
		if got := Within(v); got != want {
			t.Errorf("Within(%v) = %v, want %v", v, got, want)
		}
	}
}

// P4.1
func TestAddSubAndDot(t *testing.T) {
	for _, x := range []struct {
		a, b, sum, difference api.Vec
		dot                   int
	}{
		{api.Vec{}, api.Vec{}, api.Vec{}, api.Vec{}, 0},
		{api.Vec{X: 1, Y: 2, Z: 3}, api.Vec{X: 10, Y: -20, Z: 30}, api.Vec{X: 11, Y: -18, Z: 33}, api.Vec{X: -9, Y: 22, Z: -27}, 60},
		{api.Vec{X: 5}, api.Vec{X: 7}, api.Vec{X: 12}, api.Vec{X: -2}, 35},
		{api.Vec{Y: 5}, api.Vec{Y: 7}, api.Vec{Y: 12}, api.Vec{Y: -2}, 35},
		{api.Vec{Z: 5}, api.Vec{Z: 7}, api.Vec{Z: 12}, api.Vec{Z: -2}, 35},
		{api.Vec{X: 5}, api.Vec{Y: 7}, api.Vec{X: 5, Y: 7}, api.Vec{X: 5, Y: -7}, 0},
		{api.Vec{Y: 5}, api.Vec{Z: 7}, api.Vec{Y: 5, Z: 7}, api.Vec{Y: 5, Z: -7}, 0},
		{
			api.Vec{X: api.MaxCoord, Y: -api.MaxCoord, Z: api.MaxCoord + 1}, api.Vec{X: -api.MaxCoord - 1, Y: -api.MaxCoord, Z: 1},
			api.Vec{X: -1, Y: -2097152, Z: 1048578}, api.Vec{X: 2097153, Z: 1048576}, 1,
		},
		{
			api.Vec{X: edge, Y: edge, Z: edge}, api.Vec{X: edge, Y: edge, Z: edge},
			api.Vec{X: 8388608, Y: 8388608, Z: 8388608}, api.Vec{}, 52776558133248,
		},
		{
			api.Vec{X: edge, Y: edge, Z: edge}, api.Vec{X: -edge, Y: -edge, Z: -edge},
			api.Vec{}, api.Vec{X: 8388608, Y: 8388608, Z: 8388608}, -52776558133248,
		},
		{
			api.Vec{X: -edge, Y: edge, Z: -edge}, api.Vec{X: edge, Y: edge, Z: 1 - edge},
			api.Vec{Y: 8388608, Z: -8388607}, api.Vec{X: -8388608, Z: -1}, 17592181850112,
		},
	} {
		if got := Add(x.a, x.b); got != x.sum {
			t.Errorf("Add(%v, %v) = %v, want %v", x.a, x.b, got, x.sum)
		}
		if got := Sub(x.a, x.b); got != x.difference {
			t.Errorf("Sub(%v, %v) = %v, want %v", x.a, x.b, got, x.difference)
		}
		if got := Dot(x.a, x.b); got != x.dot {
			t.Errorf("Dot(%v, %v) = %d, want %d", x.a, x.b, got, x.dot)
		}
	}
}

// P4.1, P4.4: the sums and products are those of mathematical integers.
func TestSumsAndProductsAreExact(t *testing.T) {
	plus := func(a, b int) int { return int(new(big.Int).Add(big.NewInt(int64(a)), big.NewInt(int64(b))).Int64()) }
	minus := func(a, b int) int { return int(new(big.Int).Sub(big.NewInt(int64(a)), big.NewInt(int64(b))).Int64()) }
	times := func(a, b int) int { return int(new(big.Int).Mul(big.NewInt(int64(a)), big.NewInt(int64(b))).Int64()) }
	check := func(a, b api.Vec) {
		t.Helper()
		if got, want := Add(a, b), (api.Vec{X: plus(a.X, b.X), Y: plus(a.Y, b.Y), Z: plus(a.Z, b.Z)}); got != want {
			t.Errorf("Add(%v, %v) = %v, want %v", a, b, got, want)
		}
		if got, want := Sub(a, b), (api.Vec{X: minus(a.X, b.X), Y: minus(a.Y, b.Y), Z: minus(a.Z, b.Z)}); got != want {
			t.Errorf("Sub(%v, %v) = %v, want %v", a, b, got, want)
		}
		if got, want := Dot(a, b), plus(plus(times(a.X, b.X), times(a.Y, b.Y)), times(a.Z, b.Z)); got != want {
			t.Errorf("Dot(%v, %v) = %d, want %d", a, b, got, want)
		}
		p, q := api.Pt{U: a.X, W: a.Y}, api.Pt{U: b.X, W: b.Y}
		if got, want := Cross(p, q), minus(times(p.U, q.W), times(p.W, q.U)); got != want {
			t.Errorf("Cross(%v, %v) = %d, want %d", p, q, got, want)
		}
		if got, want := Inner(p, q), plus(times(p.U, q.U), times(p.W, q.W)); got != want {
			t.Errorf("Inner(%v, %v) = %d, want %d", p, q, got, want)
		}
	}
	list := smallVectors()
	for i, a := range list {
		for _, step := range []int{0, 1, 7, 100, 1000} {
			check(a, list[(i+step)%len(list)])
		}
	}
}

// P4.2
func TestLength(t *testing.T) {
	for _, x := range []struct {
		v              api.Vec
		down, up, near int
	}{
		// whole lengths
		{api.Vec{}, 0, 0, 0}, {api.Vec{X: 1}, 1, 1, 1}, {api.Vec{Y: -1}, 1, 1, 1}, {api.Vec{Z: 2}, 2, 2, 2},
		{api.Vec{X: 3, Y: 4, Z: 12}, 13, 13, 13}, {api.Vec{X: -12, Y: 3, Z: -4}, 13, 13, 13}, {api.Vec{X: 3, Y: 4}, 5, 5, 5}, {api.Vec{Y: 5, Z: -12}, 13, 13, 13}, {api.Vec{X: 8, Z: 15}, 17, 17, 17},
		{api.Vec{X: api.MaxCoord}, 1048576, 1048576, 1048576}, {api.Vec{Y: -api.MaxCoord - 1}, 1048577, 1048577, 1048577},
		{api.Vec{X: edge}, edge, edge, edge}, {api.Vec{Y: -edge}, edge, edge, edge}, {api.Vec{Z: -edge}, edge, edge, edge},
		{api.Vec{X: edge, Y: edge, Z: edge / 2}, 6291456, 6291456, 6291456},
		// lengths that are not whole
		{api.Vec{X: 1, Y: 1}, 1, 2, 1}, {api.Vec{X: 1, Y: -1, Z: 1}, 1, 2, 2}, {api.Vec{X: 1, Y: 2}, 2, 3, 2}, {api.Vec{X: 2, Z: 2}, 2, 3, 3},
		{api.Vec{X: 1, Y: 1, Z: 2}, 2, 3, 2}, {api.Vec{X: -2, Y: -2, Z: -2}, 3, 4, 3}, {api.Vec{Y: 2, Z: 3}, 3, 4, 4},
		{api.Vec{X: edge, Y: edge, Z: edge}, 7264747, 7264748, 7264748}, {api.Vec{X: -edge, Y: edge}, 5931641, 5931642, 5931642},
		{api.Vec{X: edge, Y: 1}, edge, edge + 1, edge}, {api.Vec{X: edge, Y: 1 - edge, Z: -edge}, 7264747, 7264748, 7264747},
		{api.Vec{X: api.MaxCoord, Y: api.MaxCoord, Z: api.MaxCoord}, 1816186, 1816187, 1816187},
		// the squares next to that of edge + 1/2
		{api.Vec{X: edge, Y: 2048}, edge, edge + 1, edge}, {api.Vec{X: edge, Y: 2048, Z: 1}, edge, edge + 1, edge + 1},
	} {
		checkLength(t, x.v, api.Down, x.down)
		checkLength(t, x.v, api.Up, x.up)
		checkLength(t, x.v, api.Near, x.near)
	}
}

// P4.2
func TestLengthIsExact(t *testing.T) {
	list := smallVectors()
	for x := range 20 {
		for y := range 20 {
			for z := range 20 {
				list = append(list, api.Vec{X: x, Y: -y, Z: z})
			}
		}
	}
	for _, v := range list {
		square := v.X*v.X + v.Y*v.Y + v.Z*v.Z
		for _, mode := range modes {
			if n, ok := Length(v, mode); !ok || !rounds(n, square, mode) {
				t.Errorf("Length(%v, %d) = %d, %v", v, mode, n, ok)
			}
		}
	}
}

// P4.2
func TestLengthRefuses(t *testing.T) {
	for _, mode := range noModes {
		for _, v := range triples(small) {
			if n, ok := Length(v, mode); n != 0 || ok {
				t.Errorf("Length(%v, %d) = %d, %v, want 0, false", v, mode, n, ok)
			}
		}
	}
}

// P4.3
func TestFlatAndSolid(t *testing.T) {
	for _, v := range []api.Vec{
		{}, {X: 1, Y: 2, Z: 3}, {X: -5, Y: 7, Z: -11}, {X: 1}, {Y: 1}, {Z: 1},
		{X: api.MaxCoord, Y: -api.MaxCoord, Z: api.MaxCoord + 1}, {X: edge, Y: -edge, Z: edge - 1}, {X: -edge, Y: 1 - edge, Z: edge},
	} {
		for _, x := range []struct {
			plane  int
			p      api.Pt
			height int
		}{
			{17, api.Pt{U: v.X, W: v.Y}, v.Z}, {18, api.Pt{U: v.Z, W: v.X}, v.Y}, {19, api.Pt{U: v.Y, W: v.Z}, v.X},
		} {
			checkFlat(t, x.plane, v, x.p, x.height)
			checkSolid(t, x.plane, x.p, x.height, v)
		}
	}
}

// P4.3: each plane with the values that its definition names.
func TestPlanes(t *testing.T) {
	v := api.Vec{X: 1, Y: 2, Z: 3}
	checkFlat(t, api.PlaneXY, v, api.Pt{U: 1, W: 2}, 3)
	checkFlat(t, api.PlaneZX, v, api.Pt{U: 3, W: 1}, 2)
	checkFlat(t, api.PlaneYZ, v, api.Pt{U: 2, W: 3}, 1)
	p := api.Pt{U: edge, W: -edge}
	checkSolid(t, api.PlaneXY, p, 9, api.Vec{X: edge, Y: -edge, Z: 9})
	checkSolid(t, api.PlaneZX, p, 9, api.Vec{X: -edge, Y: 9, Z: edge})
	checkSolid(t, api.PlaneYZ, p, 9, api.Vec{X: 9, Y: edge, Z: -edge})
}

// P4.3
func TestFlatAndSolidRefuse(t *testing.T) {
	for _, plane := range noPlanes {
		for _, v := range triples(small) {
			refusesPlane(t, plane, v)
		}
	}
}

// P4.4
func TestCrossAndInner(t *testing.T) {
	for _, x := range []struct {
		a, b         api.Pt
		cross, inner int
	}{
		{api.Pt{}, api.Pt{}, 0, 0}, {api.Pt{U: 1, W: 2}, api.Pt{U: 3, W: 5}, -1, 13}, {api.Pt{U: 3, W: 5}, api.Pt{U: 1, W: 2}, 1, 13},
		{api.Pt{U: 1}, api.Pt{W: 1}, 1, 0}, {api.Pt{W: 1}, api.Pt{U: 1}, -1, 0}, {api.Pt{U: 4, W: -6}, api.Pt{U: -2, W: 3}, 0, -26}, {api.Pt{U: -7, W: 2}, api.Pt{U: 3, W: -11}, 71, -43},
		{api.Pt{U: api.MaxCoord, W: 1}, api.Pt{U: -1, W: api.MaxCoord + 1}, 1099512676353, 1},
		{api.Pt{U: edge, W: edge}, api.Pt{U: edge, W: edge}, 0, 35184372088832}, {api.Pt{U: edge, W: edge}, api.Pt{U: -edge, W: edge}, 35184372088832, 0},
		{api.Pt{U: edge, W: -edge}, api.Pt{U: -edge, W: -edge}, -35184372088832, 0}, {api.Pt{U: -edge, W: -edge}, api.Pt{U: edge, W: edge}, 0, -35184372088832},
		{api.Pt{U: edge, W: edge - 1}, api.Pt{U: edge - 1, W: edge}, 8388607, 35184363700224},
	} {
		if got := Cross(x.a, x.b); got != x.cross {
			t.Errorf("Cross(%v, %v) = %d, want %d", x.a, x.b, got, x.cross)
		}
		if got := Inner(x.a, x.b); got != x.inner {
			t.Errorf("Inner(%v, %v) = %d, want %d", x.a, x.b, got, x.inner)
		}
	}
}

// Consequences: Solid leads back from Flat.
func TestSolidOfFlat(t *testing.T) {
	for _, plane := range planes {
		for _, v := range smallVectors() {
			p, height, ok := Flat(plane, v)
			if !ok {
				t.Errorf("Flat(%d, %v) is refused", plane, v)
			}
			checkSolid(t, plane, p, height, v)
		}
	}
}

// Consequences: the square of the length rounded by api.Down is at most the product of the vector with itself.
func TestSquareOfTheLength(t *testing.T) {
	for _, v := range smallVectors() {
		n, ok := Length(v, api.Down)
		if square := Dot(v, v); !ok || n*n > square || n == 0 && square != 0 {
			t.Errorf("Length(%v, Down) = %d, %v, but the square is %d", v, n, ok, square)
		}
	}
}

// R1 for arguments that are not small; and a mode or a plane that does not exist is refused with zero values, however long the vector is.
func TestFarArgumentsAreHarmless(t *testing.T) {
	list := triples(append([]int{0, edge}, far...))
	for i, a := range list {
		b := list[len(list)-1-i]
		Add(a, b)
		Sub(a, b)
		Dot(a, b)
		p, q := api.Pt{U: a.X, W: a.Y}, api.Pt{U: b.Y, W: b.Z}
		Cross(p, q)
		Inner(p, q)
		for _, mode := range slices.Concat(modes, noModes) {
			n, ok := Length(a, mode)
			if !ok && n != 0 || ok && slices.Contains(noModes, mode) {
				t.Errorf("Length(%v, %d) = %d, %v", a, mode, n, ok)
			}
		}
		for _, plane := range planes {
			Flat(plane, a)
			Solid(plane, p, b.X)
		}
		for _, plane := range noPlanes {
			refusesPlane(t, plane, a)
		}
	}
}
