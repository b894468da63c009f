package cordic

import (
	"math"
	"testing"

	"cnc/api"
)

// P3.1, P3.3: each entry of the table is an angle whose tangent is a power of 2, to the nearest 10^-9 degree.
func TestStepsAreAnglesOfTangents(t *testing.T) {
	for i, want := range chapterTable() {
		tangent := math.Ldexp(1, -i)
		if angle := int(math.Round(math.Atan(tangent) / math.Pi * 180e9)); angle != want || steps[i] != want {
			t.Errorf("steps[%d] = %d, want %d, the angle is %d", i, steps[i], want, angle)
		}
	}
	if len(steps) != 26 {
		t.Errorf("%d steps", len(steps))
	}
}

// P3.1
func TestSinCosOfQuarterTurnsIsExact(t *testing.T) {
	sines, cosines := [4]int{0, api.One, 0, -api.One}, [4]int{api.One, 0, -api.One, 0}
	for turn := -3; turn <= 3; turn++ {
		for k := range 4 {
			checkSinCos(t, turn*api.FullTurn+k*quarter, sines[k], cosines[k])
		}
	}
	// the last whole turns at both ends of the range of int
	last := most / api.FullTurn * api.FullTurn
	for k := range 4 {
		checkSinCos(t, last-api.FullTurn+k*quarter, sines[k], cosines[k])
		checkSinCos(t, -last+k*quarter, sines[k], cosines[k])
	}
}

// P3.1
func TestSinCos(t *testing.T) {
	for _, x := range [][3]int{
		{30000000, 536870910, 929887701}, {-30000000, -536870910, 929887703}, {60000000, 929887703, 536870910}, {1000, 18776, 1073741822},
		{12345678, 229575948, 1048912004}, {-12345678, -229575948, 1048912002},
		// next to the multiples of a quarter turn
		{1, 20, 1073741828}, {-1, -21, 1073741830}, {89999999, 1073741830, 21}, {90000001, 1073741828, -20}, {179999999, 21, -1073741830}, {180000001, -20, -1073741828},
		{269999999, -1073741830, -21}, {270000001, -1073741828, 20}, {359999999, -21, 1073741830}, {360000001, 20, 1073741828}, {-720000001, -21, 1073741830},
		// the eighths, at which k changes
		{44999999, 759250124, 759250125}, {45000000, 759250129, 759250124}, {45000001, 759250129, 759250124},
		{134999999, 759250125, -759250124}, {135000000, 759250124, -759250129}, {135000001, 759250124, -759250129},
		{224999999, -759250124, -759250125}, {225000000, -759250129, -759250124}, {225000001, -759250129, -759250124},
		{314999999, -759250125, 759250124}, {315000000, -759250124, 759250129}, {315000001, -759250124, 759250129},
		{-44999999, -759250124, 759250129}, {-45000000, -759250124, 759250129}, {-45000001, -759250125, 759250124},
		// many turns
		{3600000000045000000, 759250129, 759250124}, {most, 877141230, 619309910}, {least, -877141232, 619309910},
	} {
		checkSinCos(t, x[0], x[1], x[2])
	}
}

// P3.1
func TestSinCosBitByBit(t *testing.T) {
	for _, angle := range angles() {
		s, c := exactSinCos(angle)
		checkSinCos(t, angle, s, c)
	}
}

// P3.1
func TestSinCosHasAPeriod(t *testing.T) {
	for _, angle := range samples(500, most/4) {
		s, c := SinCos(angle)
		for _, turns := range []int{-1000000007, -1, 1, 2, 1000000007} {
			checkSinCos(t, angle+turns*api.FullTurn, s, c)
		}
	}
}

// Consequences: the sum of the squares, and besides it the size of each.
func TestSinCosIsNearTheCircle(t *testing.T) {
	check := func(angle int) {
		s, c := SinCos(angle)
		if off := s*s + c*c - api.One*api.One; off < -1<<40 || off > 1<<40 {
			t.Errorf("SinCos(%d) = %d, %d, whose squares miss the circle by %d", angle, s, c, off)
		}
		sine, cosine := math.Sincos(float64(angle%api.FullTurn) * degree)
		if math.Abs(float64(s)-sine*api.One) > 50 || math.Abs(float64(c)-cosine*api.One) > 50 {
			t.Errorf("SinCos(%d) = %d, %d, want about %.0f, %.0f", angle, s, c, sine*api.One, cosine*api.One)
		}
	}
	for _, angle := range angles() {
		check(angle)
	}
	for angle := 0; angle < api.FullTurn; angle += 7919 {
		check(angle)
	}
}

// P3.2
func TestRotateByQuarterTurnsIsExact(t *testing.T) {
	for _, p := range points(edge) {
		for quarters := -5; quarters <= 5; quarters++ {
			x, y := turned(p[0], p[1], quarters)
			checkRotate(t, p[0], p[1], quarters*quarter, x, y)
		}
	}
}

// P3.2
func TestRotate(t *testing.T) {
	for _, x := range [][5]int{
		{5, 0, -90000000, 0, -5}, {1000, -7, 180000000, -1000, 7}, {0, 0, 12345678, 0, 0},
		{1000, 0, 60000000, 500, 866}, {1000, -7, 30000000, 870, 494}, {-1000, 7, 30000000, -870, -494}, {1, 1, 45000000, 0, 1}, {3, 4, 12345678, 2, 5},
		{100, 0, 1, 100, 0}, {edge, 0, 1, edge, 0}, {edge, 0, -1, edge, 0},
		{edge, edge, 45000000, 0, 5931642}, {edge, -edge, 44999999, 5931642, 0}, {-edge, -edge, -45000000, -5931642, 0},
		{1048576, 1048576, least, 1461378, -251788}, {-1048576, 1048576, most, -1461378, -251788},
	} {
		checkRotate(t, x[0], x[1], x[2], x[3], x[4])
	}
}

// P3.2
func TestRotateRoundsHalvesUp(t *testing.T) {
	// One exact coordinate of each is an integer and 1/2.
	for _, x := range [][4]int{
		{4194304, 34281352, 3465677, 2362472}, {-4194304, 34281352, -3465676, -2362472}, {3145728, 44473105, 2244727, 2203817}, {-3145728, 44473105, -2244727, -2203816},
		{2097152, 88019686, 72469, 2095900}, {-2097152, 88019686, -72469, -2095899}, {3145728, 104079418, -765250, 3051229}, {-3145728, 104079418, 765251, -3051229},
	} {
		s, c := exactSinCos(x[1])
		if modulo(x[0]*c, api.One) != api.One/2 && modulo(x[0]*s, api.One) != api.One/2 {
			t.Fatalf("no half at %d, %d", x[0], x[1])
		}
		checkRotate(t, x[0], 0, x[1], x[2], x[3])
	}
}

// P3.2
func TestRotateBitByBit(t *testing.T) {
	list := angles()
	for i, p := range points(edge) {
		for _, angle := range []int{list[i%len(list)], list[(i*37+11)%len(list)]} {
			x, y := exactRotate(p[0], p[1], angle)
			checkRotate(t, p[0], p[1], angle, x, y)
		}
	}
}

// P3.2
func TestRotateRefuses(t *testing.T) {
	inside := []int{0, 1, -1, api.MaxCoord, edge - 1, 1 - edge, edge, -edge}
	for _, angle := range []int{0, 1, -quarter, 45000000, 30000000, api.FullTurn, most, least} {
		for _, a := range []int{edge + 1, -edge - 1, 2 * edge, -2 * edge, far, 1 << 62, -1 << 62, most, -most, least} {
			for _, b := range append(inside, edge+1, -edge-1, most, least) {
				refusesRotate(t, a, b, angle)
				refusesRotate(t, b, a, angle)
			}
		}
		for _, a := range inside {
			for _, b := range inside {
				x, y := exactRotate(a, b, angle)
				checkRotate(t, a, b, angle, x, y)
			}
		}
	}
}

// Consequences: a rotated point is within 2 units of the exact position.
func TestRotateIsNearTheExactPosition(t *testing.T) {
	list := angles()
	for i, p := range points(nearby) {
		for j := range 3 {
			angle := list[(i*3+j)%len(list)]
			x, y, ok := Rotate(p[0], p[1], angle)
			sine, cosine := math.Sincos(float64(angle%api.FullTurn) * degree)
			wantX := float64(p[0])*cosine - float64(p[1])*sine
			wantY := float64(p[0])*sine + float64(p[1])*cosine
			if !ok || math.Hypot(float64(x)-wantX, float64(y)-wantY) > 2 {
				t.Errorf("Rotate(%d, %d, %d) = %d, %d, %v, want about %.2f, %.2f, true", p[0], p[1], angle, x, y, ok, wantX, wantY)
			}
		}
	}
}

// P3.3
func TestAngleOfAxesIsExact(t *testing.T) {
	for _, n := range []int{1, 2, 3, 1000, api.MaxCoord, edge, edge + 1, 1 << 31, far - 1, far} {
		for quarters := range 4 {
			x, y := turned(n, 0, quarters)
			checkAngle(t, x, y, quarters*quarter)
		}
	}
}

// P3.3
func TestAngle(t *testing.T) {
	for _, x := range [][3]int{
		{2, 1, 26565050}, {1, 2, 63434950}, {3, 4, 53130103}, {-5, 12, 112619871}, {-12, -5, 202619871}, {123456789, -987654321, 277125017},
		// the diagonals and points next to them
		{1, 1, 45000068}, {-1, 1, 135000068}, {-1, -1, 225000068}, {1, -1, 315000068}, {1000, 1000, 45000000}, {1000, 999, 44971337}, {999, 1000, 45028663},
		{1000, -999, 315028663}, {1000, -1000, 315000000}, {1000, -1001, 314971368},
		{far, far, 45000000}, {-far, far, 135000000}, {-far, -far, 225000000}, {far, -far, 315000000}, {far, far - 1, 45000000}, {far - 1, far, 45000000}, {far, 1 - far, 315000000},
		// next to the axes
		{1000, -1, 359942704}, {far, 1, 1}, {far, -1, 359999999}, {1, far, 89999999}, {-1, far, 90000001}, {-far, 1, 179999999}, {-far, -1, 180000001}, {-1, -far, 269999999}, {1, -far, 270000001},
	} {
		checkAngle(t, x[0], x[1], x[2])
	}
}

// P3.3
func TestAngleBitByBit(t *testing.T) {
	for _, p := range points(far) {
		if p == [2]int{} {
			continue
		}
		want := exactAngle(t, p[0], p[1])
		if want < 0 || want >= api.FullTurn {
			t.Fatalf("%d is no direction", want)
		}
		checkAngle(t, p[0], p[1], want)
	}
}

// P3.3
func TestAngleOfAllSmallPoints(t *testing.T) {
	for x := -20; x <= 20; x++ {
		for y := -20; y <= 20; y++ {
			if x != 0 || y != 0 {
				checkAngle(t, x, y, exactAngle(t, x, y))
			}
		}
	}
}

// P3.3: the algorithm leads to the direction that geometry knows.
func TestAngleIsNearTheDirection(t *testing.T) {
	for _, p := range points(far) {
		// The fraction of a shorter one is too short for a narrow bound.
		if max(p[0], -p[0], p[1], -p[1]) < 1000 {
			continue
		}
		n, ok := Angle(p[0], p[1])
		off := float64(n) - math.Atan2(float64(p[1]), float64(p[0]))/degree
		off = math.Remainder(off, api.FullTurn)
		if !ok || math.Abs(off) > 3 {
			t.Errorf("Angle(%d, %d) = %d, %v, which is off by %.2f", p[0], p[1], n, ok, off)
		}
	}
}

// P3.3
func TestAngleRefuses(t *testing.T) {
	refusesAngle(t, 0, 0)
	for _, a := range []int{far + 1, -far - 1, 2 * far, -2 * far, 1 << 62, -1 << 62, most, -most, least} {
		for _, b := range []int{0, 1, -1, 1000, far, -far, far + 1, -far - 1, most, -most, least} {
			refusesAngle(t, a, b)
			refusesAngle(t, b, a)
		}
	}
	for _, p := range [][2]int{{far, 0}, {0, far}, {far, far}, {-far, far}, {far, -far}, {-far, -far}, {-far, 0}, {0, -far}, {far, 1}, {-1, far}} {
		checkAngle(t, p[0], p[1], exactAngle(t, p[0], p[1]))
	}
}
