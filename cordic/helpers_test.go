package cordic

import (
	"math"
	"math/big"
	"math/rand/v2"
	"testing"

	"cnc/api"
)

const (
	most    = math.MaxInt
	least   = math.MinInt
	quarter = 90000000
	far     = 1 << 40           // the farthest coordinate that has a direction
	edge    = 4 * api.MaxCoord  // the farthest coordinate that can be rotated
	nearby  = 1 << 20           // the farthest coordinate for which the chapter bounds the error of a rotation
	degree  = math.Pi / 180.0e6 // a millionth of a degree, in radians
)

// chapterTable returns the table T, written another time.
func chapterTable() []int {
	return []int{
		45000000000, 26565051177, 14036243468, 7125016349, 3576334375, 1789910608, 895173710, 447614171, 223810500, 111905677, 55952892, 27976453, 13988227,
		6994114, 3497057, 1748528, 874264, 437132, 218566, 109283, 54642, 27321, 13660, 6830, 3415, 1708,
	}
}

// samples returns numbers of all lengths and both signs, with absolute values of at most limit, the same ones in every run.
func samples(count, limit int) []int {
	source := rand.New(rand.NewPCG(5, 6))
	list := make([]int, 0, count)
	for len(list) < count {
		n := int(source.Uint64()) >> source.IntN(64)
		if n >= -limit && n <= limit {
			list = append(list, n)
		}
	}
	return list
}

// angles returns the eighths of many turns with their neighbors, the ends of the range of int, and others.
func angles() []int {
	var list []int
	for eighth := -40; eighth <= 40; eighth++ {
		for _, d := range []int{-1000, -2, -1, 0, 1, 2, 1000} {
			list = append(list, eighth*quarter/2+d)
		}
	}
	for d := range 20 {
		list = append(list, most-d*quarter/2, least+d*quarter/2, most-d, least+d)
		last := most / quarter * quarter
		list = append(list, last-d*quarter/2, -last+d*quarter/2, last-d, -last+d)
	}
	return append(list, samples(12000, most)...)
}

// points returns points with coordinates up to limit: those on and next to the axes and the diagonals, and others.
func points(limit int) [][2]int {
	var list [][2]int
	add := func(x, y int) {
		if max(x, y) <= limit {
			list = append(list, [2]int{x, y}, [2]int{-y, x}, [2]int{-x, -y}, [2]int{y, -x})
		}
	}
	for _, n := range []int{1, 2, 3, 7, 8, 100, 999, 1000, 1001, 1<<15 - 1, 1 << 15, 1 << 20, 1<<22 - 1, 1 << 22, 1<<31 + 5, 1<<40 - 1, 1 << 40} {
		for _, m := range []int{0, 1, 2, n / 2, n - 1, n, n + 1} {
			add(n, m)
		}
	}
	drawn := samples(6000, limit)
	for i := range len(drawn) - 1 {
		list = append(list, [2]int{drawn[i], drawn[i+1]}, [2]int{drawn[i], -drawn[i]})
	}
	return list
}

func number(n int) *big.Int { return big.NewInt(int64(n)) }

func plus(a, b *big.Int) *big.Int { return new(big.Int).Add(a, b) }

func minus(a, b *big.Int) *big.Int { return new(big.Int).Sub(a, b) }

func times(a, b *big.Int) *big.Int { return new(big.Int).Mul(a, b) }

// shifted returns the floor of n / 2^i.
func shifted(n *big.Int, i int) *big.Int {
	// Div leaves no negative rest.
	return new(big.Int).Div(n, new(big.Int).Exp(number(2), number(i), nil))
}

// halfUp returns the floor of n / d + 1/2.
func halfUp(n *big.Int, d int) int {
	twice := plus(times(number(2), n), number(d))
	return int(new(big.Int).Div(twice, number(2*d)).Int64())
}

// modulo returns the remainder of n from 0 on.
func modulo(n, d int) int {
	return int(new(big.Int).Mod(number(n), number(d)).Int64())
}

// turned returns a point after some quarter turns.
func turned(x, y, quarters int) (int, int) {
	switch modulo(quarters, 4) {
	case 1:
		return -y, x
	case 2:
		return -x, -y
	case 3:
		return y, -x
	}
	return x, y
}

// exactSinCos is P3.1 in numbers that can't overflow.
func exactSinCos(angle int) (int, int) {
	r := modulo(angle, 360000000)
	k := (r + 45000000) / 90000000
	rest := r - k*90000000
	if rest == 0 {
		c, s := turned(api.One, 0, k)
		return s, c
	}
	x, y, z := number(652032874), number(0), times(number(rest), number(1000))
	for i, t := range chapterTable() {
		if z.Sign() >= 0 {
			x, y, z = minus(x, shifted(y, i)), plus(y, shifted(x, i)), minus(z, number(t))
		} else {
			x, y, z = plus(x, shifted(y, i)), minus(y, shifted(x, i)), plus(z, number(t))
		}
	}
	c, s := turned(int(x.Int64()), int(y.Int64()), k)
	return s, c
}

// exactRotate is P3.2 for points that are not too far away.
func exactRotate(x, y, angle int) (int, int) {
	s, c := exactSinCos(angle)
	u := minus(times(number(x), number(c)), times(number(y), number(s)))
	v := plus(times(number(x), number(s)), times(number(y), number(c)))
	return halfUp(u, api.One), halfUp(v, api.One)
}

// exactAngle is P3.3 for points that have a direction.
func exactAngle(t *testing.T, x, y int) int {
	t.Helper()
	found := 0
	k, u, v := 0, 0, 0
	for quarters := range 4 {
		a, b := turned(x, y, -quarters)
		if a > 0 && -a <= b && b < a {
			found++
			k, u, v = quarters, a, b
		}
	}
	if found != 1 {
		t.Fatalf("(%d, %d) is in %d quarters", x, y, found)
	}
	rest := 0
	if v != 0 {
		rest = exactRest(u, v)
	}
	return modulo(k*90000000+rest, 360000000)
}

func exactRest(u, v int) int {
	x, y, z := times(number(u), number(1<<20)), times(number(v), number(1<<20)), number(0)
	for i, t := range chapterTable() {
		if y.Sign() >= 0 {
			x, y, z = plus(x, shifted(y, i)), minus(y, shifted(x, i)), plus(z, number(t))
		} else {
			x, y, z = minus(x, shifted(y, i)), plus(y, shifted(x, i)), minus(z, number(t))
		}
	}
	return halfUp(z, 1000)
}

func checkSinCos(t *testing.T, angle, sine, cosine int) {
	t.Helper()
	if s, c := SinCos(angle); s != sine || c != cosine {
		t.Errorf("SinCos(%d) = %d, %d, want %d, %d", angle, s, c, sine, cosine)
	}
}

func checkRotate(t *testing.T, x, y, angle, wantX, wantY int) {
	t.Helper()
	if u, v, ok := Rotate(x, y, angle); u != wantX || v != wantY || !ok {
		t.Errorf("Rotate(%d, %d, %d) = %d, %d, %v, want %d, %d, true", x, y, angle, u, v, ok, wantX, wantY)
	}
}

func refusesRotate(t *testing.T, x, y, angle int) {
	t.Helper()
	if u, v, ok := Rotate(x, y, angle); u != 0 || v != 0 || ok {
		t.Errorf("Rotate(%d, %d, %d) = %d, %d, %v, want 0, 0, false", x, y, angle, u, v, ok)
	}
}

func checkAngle(t *testing.T, x, y, want int) {
	t.Helper()
	if n, ok := Angle(x, y); n != want || !ok {
		t.Errorf("Angle(%d, %d) = %d, %v, want %d, true", x, y, n, ok, want)
	}
}

func refusesAngle(t *testing.T, x, y int) {
	t.Helper()
	if n, ok := Angle(x, y); n != 0 || ok {
		t.Errorf("Angle(%d, %d) = %d, %v, want 0, false", x, y, n, ok)
	}
}
