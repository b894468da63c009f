package wide

import (
	"math"
	"math/big"
	"math/rand/v2"
	"testing"

	"cnc/api"
)

const (
	most  = math.MaxInt
	least = math.MinInt
)

var modes = []int{api.Down, api.Up, api.Near}

var noModes = []int{-1, 3, most, least}

// corners are the numbers at which a product, a quotient or a root may change its size, its sign or its rest.
func corners() []int {
	list := []int{0}
	for _, n := range []int{1, 2, 3, 4, 7, 1<<31 - 1, 1 << 31, 1<<31 + 1, 1<<32 - 1, 1<<32 + 1, 3037000499, 3037000500, 1<<62 - 1, 1 << 62, 1<<62 + 1, most - 1, most} {
		list = append(list, n, -n)
	}
	return append(list, least)
}

// samples returns numbers of all lengths and both signs, the same ones in every run.
func samples(count int) []int {
	source := rand.New(rand.NewPCG(1, 2))
	list := make([]int, count)
	for i := range list {
		list[i] = int(source.Uint64()) >> source.IntN(64)
	}
	return list
}

func number(n int) *big.Int { return big.NewInt(int64(n)) }

func times(a, b *big.Int) *big.Int { return new(big.Int).Mul(a, b) }

// A ruler returns the sign of 2 * x - k for an exact number x. It tells all that there is to know about the rounding of x.
type ruler func(k *big.Int) int

func quotientRuler(a, b, c int) ruler {
	twice := times(number(2), times(number(a), number(b)))
	return func(k *big.Int) int {
		return twice.Cmp(times(k, number(c))) * number(c).Sign()
	}
}

func rootRuler(a, b int) ruler {
	square := times(number(4), times(number(a), number(b)))
	return func(k *big.Int) int {
		if k.Sign() < 0 {
			return 1
		}
		return square.Cmp(times(k, k))
	}
}

func overRuler(a, b, n int) ruler {
	twice := times(number(2), times(number(a), number(b)))
	square := times(twice, new(big.Int).Abs(twice))
	return func(k *big.Int) int {
		return square.Cmp(times(times(k, new(big.Int).Abs(k)), number(n)))
	}
}

// twicePlus returns 2 * n + d.
func twicePlus(n, d int) *big.Int {
	return new(big.Int).Add(times(number(2), number(n)), number(d))
}

// atLeast reports whether x, rounded by mode, is at least n.
func (at ruler) atLeast(n, mode int) bool {
	switch mode {
	case api.Down:
		return at(twicePlus(n, 0)) >= 0
	case api.Up:
		return at(twicePlus(n, -2)) > 0
	}
	return at(twicePlus(n, -1)) >= 0
}

// above reports whether x, rounded by mode, is greater than n.
func (at ruler) above(n, mode int) bool {
	switch mode {
	case api.Down:
		return at(twicePlus(n, 2)) >= 0
	case api.Up:
		return at(twicePlus(n, 0)) > 0
	}
	return at(twicePlus(n, 1)) >= 0
}

// rounds reports whether n and ok are x, rounded by mode, and true, or 0 and false if that is no int.
func (at ruler) rounds(n int, ok bool, mode int) bool {
	if at.above(most, mode) || !at.atLeast(least, mode) {
		return n == 0 && !ok
	}
	return ok && at.atLeast(n, mode) && !at.above(n, mode)
}

// refused fails the test unless a call has returned 0 and false.
func refused(t *testing.T, name string, n int, ok bool, arguments ...int) {
	t.Helper()
	if n != 0 || ok {
		t.Errorf("%s%v = %d, %v, want 0, false", name, arguments, n, ok)
	}
}

// is fails the test unless a call has returned want and true.
func is(t *testing.T, name string, n int, ok bool, want int, arguments ...int) {
	t.Helper()
	if n != want || !ok {
		t.Errorf("%s%v = %d, %v, want %d, true", name, arguments, n, ok, want)
	}
}

func checkCmp(t *testing.T, a, b, c, d int) {
	t.Helper()
	want := times(number(a), number(b)).Cmp(times(number(c), number(d)))
	if got := Cmp(a, b, c, d); got != want {
		t.Errorf("Cmp(%d, %d, %d, %d) = %d, want %d", a, b, c, d, got, want)
	}
}

// P1.1
func TestCmpComparesProducts(t *testing.T) {
	for _, x := range []struct{ a, b, c, d, want int }{
		{3, 4, 2, 6, 0}, {3, 4, 2, 5, 1}, {2, 5, 3, 4, -1},
		{-3, 4, 2, 6, -1}, {-3, -4, 2, 6, 0}, {3, -4, -2, 6, 0}, {-3, 4, -3, 5, 1},
		{0, least, most, 0, 0}, {0, 5, -1, 1, 1},
		{least, least, most, most, 1}, {least, least, least, least, 0}, {least, 1, most, -1, -1},
		{most, least, least, least, -1}, {most, most, most, most - 1, 1},
		// These products differ only in their upper or only in their lower 64 bits.
		{1 << 32, 1 << 32, 1, 0, 1}, {1 << 32, -1 << 32, 1, 0, -1}, {1 << 32, 1 << 32, 1 << 33, 1 << 32, -1},
		{most, 2, most - 1, 2, 1}, {-most, 2, 1 - most, 2, -1},
	} {
		if got := Cmp(x.a, x.b, x.c, x.d); got != x.want {
			t.Errorf("Cmp(%d, %d, %d, %d) = %d, want %d", x.a, x.b, x.c, x.d, got, x.want)
		}
	}
}

// P1.1
func TestCmpIsExact(t *testing.T) {
	list := corners()
	for _, a := range list {
		for _, b := range list {
			checkCmp(t, a, b, b, a)
			checkCmp(t, a, b, -b, a)
			for _, c := range list {
				checkCmp(t, a, b, c, 1)
				checkCmp(t, a, b, c, b)
				checkCmp(t, a, b, a, c)
				checkCmp(t, a, b, c, most)
			}
		}
	}
	drawn := samples(4000)
	for i := range len(drawn) - 3 {
		checkCmp(t, drawn[i], drawn[i+1], drawn[i+2], drawn[i+3])
	}
}

// P1.2
func TestMulDivRounds(t *testing.T) {
	for _, x := range []struct{ a, b, c, down, up, near int }{
		{7, 1, 2, 3, 4, 4}, {7, -1, 2, -4, -3, -3}, {-7, 1, 2, -4, -3, -3}, {7, 1, -2, -4, -3, -3}, {-7, -1, 2, 3, 4, 4}, {-7, -1, -2, -4, -3, -3},
		{8, 1, 3, 2, 3, 3}, {-8, 1, 3, -3, -2, -3}, {7, 1, 3, 2, 3, 2}, {-7, 1, 3, -3, -2, -2},
		{6, 4, 3, 8, 8, 8}, {-6, 4, 3, -8, -8, -8}, {0, 5, -3, 0, 0, 0}, {1, 1, most, 0, 1, 0}, {-1, 1, most, -1, 0, 0},
		{most, most, most, most, most, most}, {least, most, most, least, least, least}, {least, least, least, least, least, least},
		{least, 1, 1, least, least, least}, {least, -1, -1, least, least, least}, {most, -1, -1, most, most, most},
		{1 << 62, 4, 1 << 62, 4, 4, 4}, {least, 1, least, 1, 1, 1}, {most, most, least, least + 1, least + 2, least + 2},
		// 1/2 less than the number after the least int
		{1<<32 - 1, 1<<32 + 1, -2, least, -most, -most},
	} {
		for mode, want := range map[int]int{api.Down: x.down, api.Up: x.up, api.Near: x.near} {
			n, ok := MulDiv(x.a, x.b, x.c, mode)
			is(t, "MulDiv", n, ok, want, x.a, x.b, x.c, mode)
		}
	}
}

// P1.2
func TestMulDivAtTheEndsOfTheRange(t *testing.T) {
	const left, right = 1<<32 - 1, 1<<32 + 1     // the product is 2^64 - 1
	const first, second = 274177, 67280421310721 // the product is 2^64 + 1
	n, ok := MulDiv(left, right, 2, api.Down)
	is(t, "MulDiv of the greatest int and 1/2, down:", n, ok, most)
	n, ok = MulDiv(left, right, 2, api.Up)
	refused(t, "MulDiv of the greatest int and 1/2, up:", n, ok)
	n, ok = MulDiv(left, right, 2, api.Near)
	refused(t, "MulDiv of the greatest int and 1/2, near:", n, ok)
	n, ok = MulDiv(-first, second, 2, api.Down)
	refused(t, "MulDiv of the least int less 1/2, down:", n, ok)
	n, ok = MulDiv(-first, second, 2, api.Up)
	is(t, "MulDiv of the least int less 1/2, up:", n, ok, least)
	n, ok = MulDiv(-first, second, 2, api.Near)
	is(t, "MulDiv of the least int less 1/2, near:", n, ok, least)
	for _, mode := range modes {
		for _, x := range [][3]int{
			{least, -1, 1}, {least, 1, -1}, {1 << 62, 2, 1}, {1 << 62, -2, -1}, {-1 << 62, 4, 1}, {1 << 32, 1 << 32, 1}, {1 << 32, -1 << 32, 1},
			{most, most, 1}, {least, least, 1}, {least, most, 1}, {least, least, most}, {left, right, 1}, {-left, right, 1}, {first, second, 1},
		} {
			n, ok := MulDiv(x[0], x[1], x[2], mode)
			refused(t, "MulDiv", n, ok, x[0], x[1], x[2], mode)
		}
	}
}

// P1.2
func TestMulDivIsExact(t *testing.T) {
	check := func(a, b, c, mode int) {
		n, ok := MulDiv(a, b, c, mode)
		if c == 0 {
			refused(t, "MulDiv", n, ok, a, b, c, mode)
		} else if !quotientRuler(a, b, c).rounds(n, ok, mode) {
			t.Errorf("MulDiv(%d, %d, %d, %d) = %d, %v", a, b, c, mode, n, ok)
		}
	}
	list := corners()
	for _, a := range list {
		for _, b := range list {
			for _, c := range list {
				for _, mode := range modes {
					check(a, b, c, mode)
				}
			}
		}
	}
	drawn := samples(5000)
	for i := range len(drawn) - 2 {
		check(drawn[i], drawn[i+1], drawn[i+2], modes[i%len(modes)])
	}
}

// P1.2
func TestMulDivRefuses(t *testing.T) {
	for _, mode := range append(noModes, modes...) {
		for _, a := range corners() {
			n, ok := MulDiv(a, 3, 0, mode)
			refused(t, "MulDiv", n, ok, a, 3, 0, mode)
		}
	}
	for _, mode := range noModes {
		for _, a := range corners() {
			n, ok := MulDiv(a, 1, 1, mode)
			refused(t, "MulDiv", n, ok, a, 1, 1, mode)
		}
	}
}

// P1.3
func TestSqrtRounds(t *testing.T) {
	for _, x := range []struct{ n, down, up, near int }{
		{0, 0, 0, 0}, {1, 1, 1, 1}, {2, 1, 2, 1}, {3, 1, 2, 2}, {4, 2, 2, 2}, {6, 2, 3, 2}, {7, 2, 3, 3}, {12, 3, 4, 3}, {13, 3, 4, 4}, {16, 4, 4, 4},
		{1 << 62, 1 << 31, 1 << 31, 1 << 31}, {1<<62 - 1, 1<<31 - 1, 1 << 31, 1 << 31}, {1<<62 + 1, 1 << 31, 1<<31 + 1, 1 << 31},
		{most, 3037000499, 3037000500, 3037000500}, {3037000499 * 3037000499, 3037000499, 3037000499, 3037000499},
		{3037000499*3037000499 - 1, 3037000498, 3037000499, 3037000499},
	} {
		for mode, want := range map[int]int{api.Down: x.down, api.Up: x.up, api.Near: x.near} {
			n, ok := Sqrt(x.n, mode)
			is(t, "Sqrt", n, ok, want, x.n, mode)
		}
	}
}

// P1.3
func TestSqrtIsExact(t *testing.T) {
	check := func(n int) {
		for _, mode := range modes {
			root, ok := Sqrt(n, mode)
			if n < 0 {
				refused(t, "Sqrt", root, ok, n, mode)
			} else if !rootRuler(n, 1).rounds(root, ok, mode) {
				t.Errorf("Sqrt(%d, %d) = %d, %v", n, mode, root, ok)
			}
		}
	}
	for n := range 3000 {
		check(n)
	}
	for _, n := range append(corners(), samples(3000)...) {
		check(n)
	}
	for bit := range 31 {
		for _, root := range []int{1 << bit, 1<<bit + 1, 3037000499 >> bit} {
			for d := -2; d <= 2; d++ {
				check(root*root + d)
				check(root*(root+1) + d)
			}
		}
	}
}

// P1.3
func TestSqrtRefuses(t *testing.T) {
	for _, n := range []int{-1, -4, -1 << 62, -most, least} {
		for _, mode := range append(noModes, modes...) {
			root, ok := Sqrt(n, mode)
			refused(t, "Sqrt", root, ok, n, mode)
		}
	}
	for _, n := range []int{0, 1, 2, most} {
		for _, mode := range noModes {
			root, ok := Sqrt(n, mode)
			refused(t, "Sqrt", root, ok, n, mode)
		}
	}
}

// P1.4
func TestRootRounds(t *testing.T) {
	for _, x := range []struct{ a, b, down, up, near int }{
		{2, 8, 4, 4, 4}, {3, 4, 3, 4, 3}, {13, 1, 3, 4, 4}, {0, most, 0, 0, 0}, {most, 0, 0, 0, 0}, {0, 0, 0, 0, 0},
		{most, most, most, most, most}, {most, most - 1, most - 1, most, most - 1}, {most - 1, most, most - 1, most, most - 1},
		{1 << 62, 1 << 62, 1 << 62, 1 << 62, 1 << 62}, {1 << 62, 1, 1 << 31, 1 << 31, 1 << 31},
		// The square of 2^62 less 1, a product of 2^62 - 1 and 2^62 + 1
		{1<<62 - 1, 1<<62 + 1, 1<<62 - 1, 1 << 62, 1 << 62},
	} {
		for mode, want := range map[int]int{api.Down: x.down, api.Up: x.up, api.Near: x.near} {
			n, ok := Root(x.a, x.b, mode)
			is(t, "Root", n, ok, want, x.a, x.b, mode)
		}
	}
}

// P1.4
func TestRootIsExact(t *testing.T) {
	check := func(a, b int) {
		for _, mode := range modes {
			n, ok := Root(a, b, mode)
			if a < 0 || b < 0 {
				refused(t, "Root", n, ok, a, b, mode)
			} else if !rootRuler(a, b).rounds(n, ok, mode) {
				t.Errorf("Root(%d, %d, %d) = %d, %v", a, b, mode, n, ok)
			}
		}
	}
	for _, a := range corners() {
		for _, b := range corners() {
			check(a, b)
		}
	}
	drawn := samples(4000)
	for i := range len(drawn) - 1 {
		check(drawn[i]&most, drawn[i+1]&most)
	}
	for bit := range 63 {
		check(1<<bit, 1<<bit)
		check(1<<bit+1, 1<<bit-1)
		check(1<<bit, 1<<bit+1)
		check(1<<bit, 1<<bit-1)
		check(most>>bit, most)
	}
}

// P1.4
func TestRootRefuses(t *testing.T) {
	for _, x := range [][2]int{{-1, 1}, {1, -1}, {-1, -1}, {-1, 0}, {0, -1}, {least, least}, {most, least}, {least, 1}} {
		for _, mode := range append(noModes, modes...) {
			n, ok := Root(x[0], x[1], mode)
			refused(t, "Root", n, ok, x[0], x[1], mode)
		}
	}
	for _, x := range [][2]int{{0, 0}, {1, 1}, {2, 3}, {most, most}} {
		for _, mode := range noModes {
			n, ok := Root(x[0], x[1], mode)
			refused(t, "Root", n, ok, x[0], x[1], mode)
		}
	}
}

// P1.5
func TestOverRounds(t *testing.T) {
	for _, x := range []struct{ a, b, n, down, up, near int }{
		{10, 10, 2, 70, 71, 71}, {-10, 10, 2, -71, -70, -71}, {10, -10, 2, -71, -70, -71}, {-10, -10, 2, 70, 71, 71},
		{10, 1, 3, 5, 6, 6}, {-10, 1, 3, -6, -5, -6}, {10, 1, 5, 4, 5, 4}, {-10, 1, 5, -5, -4, -4},
		{6, 2, 9, 4, 4, 4}, {-6, 2, 9, -4, -4, -4}, {0, -10, 7, 0, 0, 0}, {1, 0, 7, 0, 0, 0}, {1, 1, 5, 0, 1, 0}, {-1, 1, 5, -1, 0, 0},
		// The root of n is 2: the quotients lie in the middle of two integers.
		{3, 1, 4, 1, 2, 2}, {-3, 1, 4, -2, -1, -1}, {1, 1, 4, 0, 1, 1}, {-1, 1, 4, -1, 0, 0},
		{1 << 31, 1 << 31, 1, 1 << 62, 1 << 62, 1 << 62}, {-1 << 31, 1 << 31, 1, -1 << 62, -1 << 62, -1 << 62}, {-1 << 31, -1 << 31, 1, 1 << 62, 1 << 62, 1 << 62},
		{1 << 31, 1 << 31, 1 << 62, 1 << 31, 1 << 31, 1 << 31}, {1, 1, 1 << 62, 0, 1, 0}, {-1, 1, 1 << 62, -1, 0, 0},
		{1 << 30, 1, 1 << 62, 0, 1, 1}, {-1 << 30, 1, 1 << 62, -1, 0, 0},
		{1 << 30, 3, 1 << 62, 1, 2, 2}, {-1 << 30, 3, 1 << 62, -2, -1, -1}, {1<<30 - 1, 1, 1 << 62, 0, 1, 0}, {1<<30 - 1, -1, 1 << 62, -1, 0, 0}, {1<<30 + 1, -1, 1 << 62, -1, 0, -1},
	} {
		for mode, want := range map[int]int{api.Down: x.down, api.Up: x.up, api.Near: x.near} {
			n, ok := Over(x.a, x.b, x.n, mode)
			is(t, "Over", n, ok, want, x.a, x.b, x.n, mode)
		}
	}
}

// P1.5
func TestOverIsExact(t *testing.T) {
	check := func(a, b, n, mode int) {
		got, ok := Over(a, b, n, mode)
		if max(a, b) > 1<<31 || min(a, b) < -1<<31 || n < 1 || n > 1<<62 {
			refused(t, "Over", got, ok, a, b, n, mode)
		} else if !overRuler(a, b, n).rounds(got, ok, mode) {
			t.Errorf("Over(%d, %d, %d, %d) = %d, %v", a, b, n, mode, got, ok)
		}
	}
	list := corners()
	for _, a := range list {
		for _, b := range list {
			for _, n := range list {
				for _, mode := range modes {
					check(a, b, n, mode)
				}
			}
		}
	}
	for a := -12; a <= 12; a++ {
		for n := range 200 {
			for _, mode := range modes {
				check(a, 5, n, mode)
			}
		}
	}
	drawn := samples(6000)
	for i := range len(drawn) - 2 {
		check(drawn[i]>>32, drawn[i+1]>>32, drawn[i+2]&(1<<62-1), modes[i%len(modes)])
	}
}

// P1.5
func TestOverRefuses(t *testing.T) {
	for _, mode := range append(noModes, modes...) {
		for _, x := range [][3]int{
			{1<<31 + 1, 1, 1}, {-1<<31 - 1, 1, 1}, {1, 1<<31 + 1, 1}, {1, -1<<31 - 1, 1}, {1<<31 + 1, 0, 1}, {most, 1, 1}, {least, 1, 1}, {1, least, 1}, {least, least, least},
			{1, 1, 0}, {1, 1, -1}, {0, 0, 0}, {1, 1, 1<<62 + 1}, {1, 1, most}, {1, 1, least},
		} {
			n, ok := Over(x[0], x[1], x[2], mode)
			refused(t, "Over", n, ok, x[0], x[1], x[2], mode)
		}
	}
	for _, mode := range noModes {
		for _, x := range [][3]int{{0, 0, 1}, {1, 1, 1}, {10, 10, 2}, {1 << 31, -1 << 31, 1 << 62}} {
			n, ok := Over(x[0], x[1], x[2], mode)
			refused(t, "Over", n, ok, x[0], x[1], x[2], mode)
		}
	}
}

// Consequences: Up gives the result of Down, or 1 more.
func TestUpIsDownOrOneMore(t *testing.T) {
	check := func(name string, down int, ok bool, up int, found bool) {
		if ok && found && up != down && up != down+1 {
			t.Errorf("%s = %d down and %d up", name, down, up)
		}
	}
	drawn := append(corners(), samples(500)...)
	for i, a := range drawn {
		b, c := drawn[(i+1)%len(drawn)], drawn[(i+2)%len(drawn)]
		down, ok := MulDiv(a, b, c, api.Down)
		up, found := MulDiv(a, b, c, api.Up)
		check("MulDiv", down, ok, up, found)
		down, ok = Sqrt(a, api.Down)
		up, found = Sqrt(a, api.Up)
		check("Sqrt", down, ok, up, found)
		down, ok = Root(a, b, api.Down)
		up, found = Root(a, b, api.Up)
		check("Root", down, ok, up, found)
		down, ok = Over(a, b, c, api.Down)
		up, found = Over(a, b, c, api.Up)
		check("Over", down, ok, up, found)
	}
}

// Consequences: the root of a square is exact.
func TestRootOfASquare(t *testing.T) {
	for _, a := range append(corners(), samples(1000)...) {
		for _, mode := range modes {
			n, ok := Root(a&most, a&most, mode)
			is(t, "Root", n, ok, a&most, a&most, a&most, mode)
		}
	}
}

// Consequences: Over with a square n = m * m is MulDiv by m.
func TestOverASquare(t *testing.T) {
	for i, a := range samples(1000) {
		for _, m := range []int{1, 2, 3, 10, 1<<16 + i, 1<<31 - i, 1 << 31} {
			for _, mode := range modes {
				b := 1<<31 - i
				n, ok := Over(a>>32, b, m*m, mode)
				want, _ := MulDiv(a>>32, b, m, mode)
				is(t, "Over", n, ok, want, a>>32, b, m*m, mode)
			}
		}
	}
}

func TestFloorRootOfTheGreatestNumber(t *testing.T) {
	if root := floorRoot(1<<62-1, math.MaxUint64); root != most {
		t.Errorf("the floor of the root of 2^126 - 1 is %d, want %d", root, most)
	}
}
