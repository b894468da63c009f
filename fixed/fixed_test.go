package fixed

import (
	"math/big"
	"testing"

	"cnc/api"
)

// P2.1
func TestValid(t *testing.T) {
	for _, n := range singles() {
		if !Valid(n) {
			t.Errorf("Valid(%d) = false", n)
		}
	}
	for _, n := range beyond {
		if Valid(n) {
			t.Errorf("Valid(%d) = true", n)
		}
	}
}

type operation struct {
	name string
	call func(a, b int) (int, api.Errno)
}

func operations() []operation {
	return []operation{{"Add", Add}, {"Sub", Sub}, {"Mul", Mul}, {"Div", Div}, {"Mod", Mod}}
}

// P2.4
func TestAddAndSub(t *testing.T) {
	for _, x := range [][3]int{{1, 2, 3}, {-1, 1, 0}, {1500000, -2500000, -one}, {api.MaxNum, 0, api.MaxNum}, {api.MaxNum - 1, 1, api.MaxNum}, {-api.MaxNum, api.MaxNum, 0}, {1 - api.MaxNum, -1, -api.MaxNum}} {
		n, err := Add(x[0], x[1])
		gives(t, "Add", n, err, x[2], x[0], x[1])
		n, err = Sub(x[0], -x[1])
		gives(t, "Sub", n, err, x[2], x[0], -x[1])
	}
	for _, x := range [][2]int{{api.MaxNum, 1}, {1, api.MaxNum}, {-api.MaxNum, -1}, {-1, -api.MaxNum}, {api.MaxNum, api.MaxNum}, {-api.MaxNum, -api.MaxNum}} {
		n, err := Add(x[0], x[1])
		fails(t, "Add", n, err, api.ErrRange, x[0], x[1])
		n, err = Sub(x[0], -x[1])
		fails(t, "Sub", n, err, api.ErrRange, x[0], -x[1])
	}
}

// P2.4
func TestMulRounds(t *testing.T) {
	for _, x := range [][3]int{
		{1500000, -2500000, -3750000}, {2 * one, 3 * one, 6 * one}, {0, -api.MaxNum, 0},
		{1, 499999, 0}, {1, 500000, 1}, {1, 500001, 1}, {-1, 499999, 0}, {-1, 500000, 0}, {-1, 500001, -1}, {-1, -500000, 1}, {3, 500000, 2}, {-3, 500000, -1}, {3, -500000, -1},
		{api.MaxNum, one, api.MaxNum}, {-api.MaxNum, one, -api.MaxNum}, {-api.MaxNum, -one, api.MaxNum}, {api.MaxNum, 1, one * 1000},
		// 1/1000 and 1/2 of a millionth beyond MaxNum, before rounding
		{1000001, 999999000001000, api.MaxNum}, {-1000001, 999999000001000, -api.MaxNum}, {-1500000, 666666666666667, -api.MaxNum},
	} {
		n, err := Mul(x[0], x[1])
		gives(t, "Mul", n, err, x[2], x[0], x[1])
		n, err = Mul(x[1], x[0])
		gives(t, "Mul", n, err, x[2], x[1], x[0])
	}
	for _, x := range [][2]int{{1500000, 666666666666667}, {-1500000, -666666666666667}, {api.MaxNum, one + 1}, {-api.MaxNum, one + 1}, {api.MaxNum, 2 * one}, {api.MaxNum, api.MaxNum}, {-api.MaxNum, api.MaxNum}} {
		n, err := Mul(x[0], x[1])
		fails(t, "Mul", n, err, api.ErrRange, x[0], x[1])
	}
}

// P2.4
func TestDivRounds(t *testing.T) {
	for _, x := range [][3]int{
		{one, 3 * one, 333333}, {2 * one, 3 * one, 666667}, {-one, 3 * one, -333333}, {-2 * one, 3 * one, -666667}, {0, -5, 0}, {6 * one, -2 * one, -3 * one},
		{1, 2 * one, 1}, {-1, 2 * one, 0}, {1, -2 * one, 0}, {-1, -2 * one, 1}, {3, 2 * one, 2}, {-3, 2 * one, -1}, {3, -2 * one, -1}, {1, 2*one + 1, 0}, {-1, 2*one - 1, -1},
		{api.MaxNum, one, api.MaxNum}, {api.MaxNum, -one, -api.MaxNum}, {api.MaxNum, api.MaxNum, one}, {1, api.MaxNum, 0}, {1000000000, 1, api.MaxNum}, {1000000000, -1, -api.MaxNum},
	} {
		n, err := Div(x[0], x[1])
		gives(t, "Div", n, err, x[2], x[0], x[1])
	}
	for _, x := range [][2]int{{1000000001, 1}, {1000000001, -1}, {api.MaxNum, one - 1}, {-api.MaxNum, one - 1}, {api.MaxNum, 1}, {-api.MaxNum, 1}, {api.MaxNum, -1}} {
		n, err := Div(x[0], x[1])
		fails(t, "Div", n, err, api.ErrRange, x[0], x[1])
	}
}

// P2.4
func TestModIsNeverNegative(t *testing.T) {
	for _, x := range [][3]int{
		{-one, 3 * one, 2 * one}, {one, 3 * one, one}, {-one, -3 * one, 2 * one}, {one, -3 * one, one}, {7500000, -2 * one, 1500000}, {-7500000, 2 * one, 500000}, {-7500000, -2 * one, 500000},
		{6 * one, 3 * one, 0}, {-6 * one, 3 * one, 0}, {6 * one, -3 * one, 0}, {-6 * one, -3 * one, 0}, {0, 7, 0}, {0, -7, 0}, {5, 1, 0}, {-5, -1, 0}, {1250000, 500000, 250000},
		{api.MaxNum, -api.MaxNum, 0}, {-1, api.MaxNum, api.MaxNum - 1}, {-1, -api.MaxNum, api.MaxNum - 1}, {1 - api.MaxNum, api.MaxNum, 1},
	} {
		n, err := Mod(x[0], x[1])
		gives(t, "Mod", n, err, x[2], x[0], x[1])
	}
}

// P2.4
func TestArithmeticIsExact(t *testing.T) {
	for _, x := range pairs() {
		a, b := x[0], x[1]
		n, err := Add(a, b)
		givesExact(t, "Add", n, err, plus(number(a), number(b)), a, b)
		n, err = Sub(a, b)
		givesExact(t, "Sub", n, err, plus(number(a), number(-b)), a, b)
		n, err = Mul(a, b)
		givesExact(t, "Mul", n, err, near(new(big.Rat).SetFrac(times(number(a), number(b)), number(one))), a, b)
		if b == 0 {
			continue
		}
		n, err = Div(a, b)
		givesExact(t, "Div", n, err, near(new(big.Rat).SetFrac(times(number(a), number(one)), number(b))), a, b)
		n, err = Mod(a, b)
		givesExact(t, "Mod", n, err, new(big.Int).Mod(number(a), number(b)), a, b)
	}
}

// P2.4
func TestOperandsMustBeValid(t *testing.T) {
	for _, f := range operations() {
		for _, a := range beyond {
			// With a 0, with a number that leads out of the range, and with another such number, ErrArg still comes first.
			for _, b := range []int{0, 1, one, api.MaxNum, -api.MaxNum, most, least} {
				n, err := f.call(a, b)
				fails(t, f.name, n, err, api.ErrArg, a, b)
				n, err = f.call(b, a)
				fails(t, f.name, n, err, api.ErrArg, b, a)
			}
		}
	}
}

// P2.4
func TestDivisionByZero(t *testing.T) {
	for _, a := range corners() {
		n, err := Div(a, 0)
		fails(t, "Div", n, err, api.ErrZero, a, 0)
		n, err = Mod(a, 0)
		fails(t, "Mod", n, err, api.ErrZero, a, 0)
	}
}

// P2.5
func TestSqrt(t *testing.T) {
	for _, x := range [][2]int{{0, 0}, {1, 1000}, {2, 1414}, {3, 1732}, {250000, 500000}, {one, one}, {2 * one, 1414214}, {4 * one, 2 * one}, {api.MaxNum, 31622776602}} {
		n, err := Sqrt(x[0])
		gives(t, "Sqrt", n, err, x[1], x[0])
	}
	for _, a := range singles() {
		if a < 0 {
			continue
		}
		n, err := Sqrt(a)
		// Twice the root lies from 2 * n - 1 on, before 2 * n + 1. A root of a whole number is never in the middle of two integers.
		square := times(number(4), times(number(a), number(one)))
		low, high := number(2*n-1), number(2*n+1)
		if err != api.OK || n < 0 || n > 0 && times(low, low).Cmp(square) > 0 || times(high, high).Cmp(square) <= 0 {
			t.Errorf("Sqrt(%d) = %d, %d", a, n, err)
		}
	}
}

// P2.5
func TestSqrtRefuses(t *testing.T) {
	for _, a := range []int{-1, -2, -one, -api.MaxNum} {
		n, err := Sqrt(a)
		fails(t, "Sqrt", n, err, api.ErrDomain, a)
	}
	for _, a := range beyond {
		n, err := Sqrt(a)
		fails(t, "Sqrt", n, err, api.ErrArg, a)
	}
}

// P2.5
func TestRoundFixAndFup(t *testing.T) {
	for _, x := range []struct{ a, round, fix, fup int }{
		{0, 0, 0, 0}, {1, 0, 0, 1}, {-1, 0, 0, -1}, {499999, 0, 0, 1}, {500000, 1, 0, 1}, {-499999, 0, 0, -1}, {-500000, 0, 0, -1}, {-500001, -1, 0, -1}, {999999, 1, 0, 1}, {-999999, -1, 0, -1},
		{one, 1, 1, 1}, {-one, -1, -1, -1}, {one + 1, 1, 1, 2}, {-one - 1, -1, -1, -2}, {1500000, 2, 1, 2}, {-1500000, -1, -1, -2}, {-1500001, -2, -1, -2}, {2500000, 3, 2, 3}, {-2500000, -2, -2, -3},
		{api.MaxNum, 1000000000, 1000000000, 1000000000}, {-api.MaxNum, -1000000000, -1000000000, -1000000000},
		{api.MaxNum - 1, 1000000000, 999999999, 1000000000}, {1 - api.MaxNum, -1000000000, -999999999, -1000000000},
		{500000 - api.MaxNum, -999999999, -999999999, -1000000000},
	} {
		n, err := Round(x.a)
		gives(t, "Round", n, err, x.round*one, x.a)
		n, err = Fix(x.a)
		gives(t, "Fix", n, err, x.fix*one, x.a)
		n, err = Fup(x.a)
		gives(t, "Fup", n, err, x.fup*one, x.a)
	}
}

// P2.5
func TestRoundFixAndFupAreExact(t *testing.T) {
	for _, a := range singles() {
		x := big.NewRat(int64(a), one)
		low, high := floor(x), floor(x)
		if !x.IsInt() {
			high = plus(low, number(1))
		}
		if a < 0 {
			low, high = high, low
		}
		n, err := Round(a)
		givesExact(t, "Round", n, err, times(near(x), number(one)), a)
		n, err = Fix(a)
		givesExact(t, "Fix", n, err, times(low, number(one)), a)
		n, err = Fup(a)
		givesExact(t, "Fup", n, err, times(high, number(one)), a)
	}
}

// P2.5
func TestRoundFixAndFupRefuse(t *testing.T) {
	for _, a := range beyond {
		n, err := Round(a)
		fails(t, "Round", n, err, api.ErrArg, a)
		n, err = Fix(a)
		fails(t, "Fix", n, err, api.ErrArg, a)
		n, err = Fup(a)
		fails(t, "Fup", n, err, api.ErrArg, a)
	}
}

// P2.6
func TestWhole(t *testing.T) {
	for _, n := range []int{0, 1, -1, 2, -2, 3, 85, -85, 99999, 123456789, 999999999, -999999999, 1000000000, -1000000000} {
		if whole, ok := Whole(n * one); whole != n || !ok {
			t.Errorf("Whole(%d) = %d, %v, want %d, true", n*one, whole, ok, n)
		}
	}
	refused := []int{1, -1, 500000, -500000, 999999, one + 1, -one - 1, 3*one - 1, api.MaxNum - 1, 1 - api.MaxNum, api.MaxNum + one, -api.MaxNum - one, 2 * api.MaxNum, most / one * one, least / one * one}
	for _, a := range append(refused, beyond...) {
		if whole, ok := Whole(a); whole != 0 || ok {
			t.Errorf("Whole(%d) = %d, %v, want 0, false", a, whole, ok)
		}
	}
}

// P2.7
func TestLengthRounds(t *testing.T) {
	for _, x := range [][3]int{
		{one, inches, 25400}, {one, millimeters, 1000}, {-one, inches, -25400}, {-one, millimeters, -1000}, {0, inches, 0}, {0, millimeters, 0},
		{499, millimeters, 0}, {500, millimeters, 1}, {1500, millimeters, 2}, {-500, millimeters, 0}, {-501, millimeters, -1}, {-1500, millimeters, -1}, {-1501, millimeters, -2},
		{19, inches, 0}, {20, inches, 1}, {2500, inches, 64}, {2499, inches, 63}, {-2500, inches, -63}, {-2501, inches, -64},
		{1048576000, millimeters, api.MaxCoord}, {1048576499, millimeters, api.MaxCoord}, {-1048576000, millimeters, -api.MaxCoord}, {-1048576500, millimeters, -api.MaxCoord},
		{41282539, inches, api.MaxCoord}, {-41282539, inches, -api.MaxCoord},
	} {
		n, err := Length(x[0], x[1])
		gives(t, "Length", n, err, x[2], x[0], x[1])
	}
	for _, x := range [][2]int{
		{1048576500, millimeters}, {-1048576501, millimeters}, {2000000000, millimeters}, {api.MaxNum, millimeters}, {-api.MaxNum, millimeters},
		{41282540, inches}, {-41282540, inches}, {1048576000, inches}, {api.MaxNum, inches}, {-api.MaxNum, inches},
	} {
		n, err := Length(x[0], x[1])
		fails(t, "Length", n, err, api.ErrRange, x[0], x[1])
	}
}

// P2.7
func TestLengthIsExact(t *testing.T) {
	for _, a := range singles() {
		for units, micrometers := range map[int]int64{20: 25400, 21: 1000} {
			want := near(new(big.Rat).Mul(big.NewRat(int64(a), one), big.NewRat(micrometers, 1)))
			n, err := Length(a, units)
			if want.CmpAbs(number(api.MaxCoord)) > 0 {
				fails(t, "Length", n, err, api.ErrRange, a, units)
			} else {
				gives(t, "Length", n, err, int(want.Int64()), a, units)
			}
		}
	}
}

// P2.7
func TestLengthRefuses(t *testing.T) {
	for _, units := range []int{-21, -20, -1, 0, 1, 19, 22, 90, most, least} {
		// MaxNum would lead out of the range in any unit.
		for _, a := range append(beyond, 0, 1, -one, api.MaxNum, -api.MaxNum) {
			n, err := Length(a, units)
			fails(t, "Length", n, err, api.ErrArg, a, units)
		}
	}
	for _, a := range beyond {
		n, err := Length(a, inches)
		fails(t, "Length", n, err, api.ErrArg, a, inches)
		n, err = Length(a, millimeters)
		fails(t, "Length", n, err, api.ErrArg, a, millimeters)
	}
}

// Consequences: a product with the divisor leads back from a quotient.
func TestMulIsTheInverseOfDiv(t *testing.T) {
	compared := 0
	for _, x := range pairs() {
		a, b := x[0], x[1]
		quotient, err := Div(a, b)
		if err != api.OK {
			continue
		}
		n, err := Mul(quotient, b)
		if err != api.OK {
			continue
		}
		compared++
		// Twice the difference, in millionths of a millionth, is at most |b| and a million.
		twice := times(number(2*one), number(n-a))
		if twice.CmpAbs(number(max(b, -b)+one)) > 0 {
			t.Errorf("Mul(Div(%d, %d), %d) = %d", a, b, b, n)
		}
	}
	if compared < 1000 {
		t.Errorf("only %d pairs without an error", compared)
	}
}
