package eval_test

import (
	"strings"
	"testing"

	"cnc/api"
	"cnc/cordic"
	"cnc/eval"
	"cnc/fixed"
	"cnc/syntax"
	"cnc/vars"
)

// checkSingle compares an operator of one value with the model.
func checkSingle(t *testing.T, op, a int) {
	t.Helper()
	s := with(t, a)
	want, err := expectedSingle(op, a, s)
	gives(t, branch(op, ref(1)), s, want, err)
}

// checkPair compares an operator of two values with the model.
func checkPair(t *testing.T, op, a, b int) {
	t.Helper()
	want, err := expectedPair(op, a, b)
	gives(t, branch(op, ref(1), ref(2)), with(t, a, b), want, err)
}

// yields fails the test unless the text has the wanted value, a number that fixed.Parse reads but for its sign.
func yields(t *testing.T, text, want string, s *vars.Store) {
	t.Helper()
	n, err := fixed.Parse(strings.TrimPrefix(want, "-"))
	if err != api.OK {
		t.Fatalf("%q is no number", want)
	}
	if want[0] == '-' {
		n = -n
	}
	has(t, parsed(t, text), s, n)
}

// P8.1
func TestExamples(t *testing.T) {
	s := vars.New()
	fails(t, branch(api.OpDiv, num(one), num(0)), s, api.ErrZero)
	has(t, branch(api.OpAtan, num(one), num(0)), s, 90*one)
	fails(t, branch(api.OpVar, num(34*one)), s, api.ErrUnknown)
}

// P8.1: the value of each operator in one place that no other operator shares, by numbers that are written out.
func TestEachOperator(t *testing.T) {
	s := with(t, 7*one, -5*one/2, 3*one)
	for _, x := range [][2]string{
		{"1.5", "1.5"}, {"#1", "7"}, {"#2", "-2.5"}, {"-#1", "-7"}, {"-#2", "2.5"},
		{"#1 + #2", "4.5"}, {"#1 - #2", "9.5"}, {"#2 - #1", "-9.5"}, {"#1 * #2", "-17.5"}, {"#1 / #2", "-2.8"}, {"#2 / #1", "-0.357143"},
		{"#1 MOD #3", "1"}, {"#2 MOD #3", "0.5"}, {"#1 MOD #2", "2"}, {"-#1 MOD #3", "2"}, {"-#1 MOD -#3", "2"},
		{"SIN[30]", "0.5"}, {"COS[60]", "0.5"}, {"SIN[60]", "0.866025"}, {"COS[30]", "0.866025"}, {"TAN[30]", "0.57735"}, {"TAN[-30]", "-0.57735"}, {"TAN[120]", "-1.732051"},
		{"ATAN[3]/[4]", "36.869897"}, {"ATAN[4]/[3]", "53.130103"},
		{"SQRT[2]", "1.414214"}, {"SQRT[#1 + #1 + 2]", "4"}, {"SQRT[0]", "0"}, {"ABS[#1]", "7"}, {"ABS[#2]", "2.5"},
		{"ROUND[#2]", "-2"}, {"FIX[#2]", "-2"}, {"FUP[#2]", "-3"}, {"ROUND[2.5]", "3"}, {"FIX[2.5]", "2"}, {"FUP[2.5]", "3"}, {"ROUND[2.4]", "2"}, {"FUP[2]", "2"}, {"FIX[2]", "2"},
		{"#1 EQ #2", "0"}, {"#1 NE #2", "1"}, {"#1 GT #2", "1"}, {"#1 GE #2", "1"}, {"#1 LT #2", "0"}, {"#1 LE #2", "0"},
		{"#2 EQ #1", "0"}, {"#2 NE #1", "1"}, {"#2 GT #1", "0"}, {"#2 GE #1", "0"}, {"#2 LT #1", "1"}, {"#2 LE #1", "1"},
		{"#1 EQ #1", "1"}, {"#1 NE #1", "0"}, {"#1 GT #1", "0"}, {"#1 GE #1", "1"}, {"#1 LT #1", "0"}, {"#1 LE #1", "1"},
		{"#1 AND #2", "1"}, {"#1 OR #2", "1"}, {"#1 XOR #2", "0"}, {"#1 AND #9", "0"}, {"#1 OR #9", "1"}, {"#1 XOR #9", "1"},
		{"#9 AND #2", "0"}, {"#9 OR #2", "1"}, {"#9 XOR #2", "1"}, {"#9 AND #9", "0"}, {"#9 OR #9", "0"}, {"#9 XOR #9", "0"},
	} {
		yields(t, x[0], x[1], s)
	}
}

// P8.1
func TestOpNum(t *testing.T) {
	for _, n := range []int{0, 1, 2, 999999, one, one + 1, 1 << 31, 1 << 40, top - one, top - 2, top - 1} {
		has(t, num(n), vars.New(), n)
		has(t, num(n), filled(t, 2), n)
	}
}

// P8.1: each operator, with values at both ends of the range, at 0 and beside it, and at many others.
func TestOperatorsOfOneValue(t *testing.T) {
	for _, op := range singles {
		for _, a := range corners() {
			checkSingle(t, op, a)
		}
		for _, a := range angles() {
			checkSingle(t, op, a)
		}
		for _, a := range samples(1000) {
			checkSingle(t, op, a)
		}
	}
}

// P8.1
func TestOperatorsOfTwoValues(t *testing.T) {
	list := corners()
	drawn := samples(2000)
	for _, op := range pairs {
		for _, a := range list {
			for _, b := range list {
				checkPair(t, op, a, b)
			}
		}
		for i := range len(drawn) - 1 {
			checkPair(t, op, drawn[i], drawn[i+1])
			checkPair(t, op, drawn[i], drawn[i])
		}
	}
}

// P8.1: it does not matter whether a value comes from a variable or from a number.
func TestOperatorsOfConstants(t *testing.T) {
	s := vars.New()
	for _, a := range corners() {
		has(t, constant(a), s, a)
		for _, op := range singles {
			want, err := expectedSingle(op, a, s)
			gives(t, branch(op, constant(a)), s, want, err)
		}
		for _, b := range []int{0, 1, -1, one, -one, 3 * one, far, far + 1, top - 1, top, -top} {
			for _, op := range pairs {
				want, err := expectedPair(op, a, b)
				gives(t, branch(op, constant(a), constant(b)), s, want, err)
			}
		}
	}
}

// P8.1
func TestSumsAndProductsThatAreNotValid(t *testing.T) {
	s := with(t, top, -top, 31622776602, one/2)
	for _, text := range []string{
		"#1 + 0.000001", "#2 - 0.000001", "0.000001 - #2", "#1 + #1", "#2 + #2", "#1 - #2", "#2 - #1",
		"#3 * #3", "-#3 * #3", "#1 * 1.000001", "#1 * #1", "#2 * #1", "#1 / 0.999999", "#2 / #4", "#1 / 0.000001", "0.000001 - #2 + 0.000001",
	} {
		fails(t, parsed(t, text), s, api.ErrRange)
	}
	for text, want := range map[string]int{
		"#1 - 0.000001": top - 1, "#1 + #2": 0, "#1 - #1": 0, "#1 * 1": top, "#1 * -1": -top, "#1 / #2": -one, "#2 / 1": -top, "#1 / -1": -top, "#1 * #4": top / 2,
		"#1 MOD #2": 0, "#2 MOD #1": 0, "#2 MOD 3": 2 * one, "#1 MOD 3": one, "-#1": -top, "-#2": top, "ABS[#2]": top, "ABS[#1]": top,
		"ROUND[#1]": top, "FIX[#2]": -top, "FUP[#1]": top, "FUP[#1 - 0.000001]": top, "ROUND[#2 + 0.5]": one - top, "SQRT[#1]": 31622776602,
	} {
		has(t, parsed(t, text), s, want)
	}
}

// P8.1
func TestDivisionsByZero(t *testing.T) {
	for _, a := range corners() {
		s := with(t, a)
		for _, op := range []int{api.OpDiv, api.OpMod} {
			fails(t, branch(op, ref(1), num(0)), s, api.ErrZero)
			fails(t, branch(op, ref(1), ref(2)), s, api.ErrZero)
			fails(t, branch(op, ref(1), branch(api.OpSub, ref(1), ref(1))), s, api.ErrZero)
		}
	}
}

// P8.1
func TestRootsOfNegativeNumbers(t *testing.T) {
	for _, a := range corners() {
		if a < 0 {
			fails(t, branch(api.OpSqrt, ref(1)), with(t, a), api.ErrDomain)
			fails(t, branch(api.OpSqrt, constant(a)), vars.New(), api.ErrDomain)
		}
	}
}

// P8.1: sine, cosine and tangent of the multiples of 45 degrees and of the angles beside them, written out for one turn.
func TestMultiplesOf45Degrees(t *testing.T) {
	// The sines of the angles a millionth before the multiple, at it, and behind it.
	sines := [8][3]int{{0, 0, 0}, {707107, 707107, 707107}, {one, one, one}, {707107, 707107, 707107}, {0, 0, 0}, {-707107, -707107, -707107}, {-one, -one, -one}, {-707107, -707107, -707107}}
	tangents := [8][3]int{{0, 0, 0}, {one, one, one}, {51130563333333, 0, -53687091400000}, {-one, -one, -one}, {0, 0, 0}, {one, one, one}, {51130563333333, 0, -53687091400000}, {-one, -one, -one}}
	for _, turn := range []int{0, 1, 2, 1000, -1, -2, -1000, top/api.FullTurn - 1, -top / api.FullTurn} {
		for eighth := range 8 {
			for d := range 3 {
				s := with(t, turn*api.FullTurn+eighth*45*one+d-1)
				has(t, branch(api.OpSin, ref(1)), s, sines[eighth][d])
				has(t, branch(api.OpCos, ref(1)), s, sines[(eighth+2)%8][d])
				if eighth%4 == 2 && d == 1 {
					fails(t, branch(api.OpTan, ref(1)), s, api.ErrZero)
				} else {
					has(t, branch(api.OpTan, ref(1)), s, tangents[eighth][d])
				}
			}
		}
	}
}

// P8.1: the tangents beside 90 degrees are the greatest ones. They are valid, so that no angle has a tangent with ErrRange.
func TestGreatestTangents(t *testing.T) {
	greatest, smallest := 0, 0
	for _, middle := range []int{90 * one, 270 * one} {
		for angle := middle - 2000; angle <= middle+2000; angle++ {
			checkSingle(t, api.OpTan, angle)
			if angle != middle {
				n, _ := eval.Eval(branch(api.OpTan, num(angle)), vars.New())
				greatest, smallest = max(greatest, n), min(smallest, n)
			}
		}
	}
	if greatest != 51130563333333 || smallest != -53687091400000 {
		t.Errorf("the tangents are from %d to %d", smallest, greatest)
	}
}

// P8.1
func TestDirections(t *testing.T) {
	for _, x := range []struct{ a, b, want int }{
		// The half axes.
		{0, 1, 0}, {1, 0, 90 * one}, {0, -1, 180 * one}, {-1, 0, 270 * one},
		{0, top, 0}, {top, 0, 90 * one}, {0, -top, 180 * one}, {-top, 0, 270 * one},
		{0, far, 0}, {far + 1, 0, 90 * one}, {0, -far - 1, 180 * one}, {-far, 0, 270 * one},
		// The quadrants.
		{one, 2 * one, 26565050}, {2 * one, one, 63434950}, {2 * one, -one, 116565050}, {one, -2 * one, 153434950},
		{-one, -2 * one, 206565050}, {-2 * one, -one, 243434950}, {-2 * one, one, 296565050}, {-one, 2 * one, 333434950},
		{top, top, 45 * one}, {top, -top, 135 * one}, {-top, -top, 225 * one}, {-top, top, 315 * one},
		{far, far, 45 * one}, {far + 1, -far - 1, 135 * one}, {-far - 1, -far - 1, 225 * one}, {-far, far, 315 * one},
		// The floors of the halves of a small negative number end at -1, those of a positive one at 0.
		{far, 1, 90*one - 1}, {far + 1, 1, 90 * one}, {-far, 1, 270*one + 1}, {top, -1, 90*one + 1}, {top, 1, 90 * one}, {-1, top, 360*one - 1}, {1, top, 0}, {-1, -top, 180*one + 1}, {1, -top, 180 * one},
	} {
		has(t, branch(api.OpAtan, ref(1), ref(2)), with(t, x.a, x.b), x.want)
	}
	fails(t, branch(api.OpAtan, num(0), num(0)), vars.New(), api.ErrZero)
	fails(t, branch(api.OpAtan, ref(1), ref(2)), vars.New(), api.ErrZero)
}

// P8.1: values of all sizes, where cordic.Angle has no result for them until they are halved.
func TestDirectionsOfFarPoints(t *testing.T) {
	var list []int
	for _, n := range []int{1, 2, 3, 1000, far / 2, far - 1, far, far + 1, far + 2, 2*far - 1, 2 * far, 2*far + 1, 4*far + 3, 512*far - 1, 512 * far, 512*far + 1, 600 * far, top - 1, top} {
		list = append(list, n, -n)
	}
	halved := 0
	for _, a := range append(list, 0) {
		for _, b := range append(list, 0) {
			checkPair(t, api.OpAtan, a, b)
			n, err := eval.Eval(branch(api.OpAtan, ref(1), ref(2)), with(t, a, b))
			if n < 0 || n >= api.FullTurn || (err == api.ErrZero) != (a == 0 && b == 0) {
				t.Errorf("ATAN of %d and %d = %d, %d", a, b, n, err)
			}
			want, ok := cordic.Angle(b, a)
			if ok && n != want {
				t.Errorf("ATAN of %d and %d = %d, want %d", a, b, n, want)
			}
			if !ok {
				halved++
			}
		}
	}
	if halved < 500 {
		t.Errorf("only %d points are far", halved)
	}
}

// P8.1: the logical operators do not stop at the first Kid.
func TestLogicalOperatorsNeedBothKids(t *testing.T) {
	for err, x := range broken() {
		for _, op := range []int{api.OpAnd, api.OpOr, api.OpXor} {
			for _, n := range []int{0, 1, one} {
				fails(t, branch(op, num(n), x), vars.New(), err)
				fails(t, branch(op, x, num(n)), vars.New(), err)
			}
		}
	}
}

// P8.1: the logical operators ask whether a value is 0, and not whether it is 1.
func TestLogicalOperatorsOfOtherValues(t *testing.T) {
	list := []int{1, -1, 2, -2, one, -one, one + 1, 7 * one, -7 * one, 1 << 32, -1 << 32, top, -top}
	for _, a := range list {
		for _, b := range list {
			s := with(t, a, b)
			has(t, branch(api.OpAnd, ref(1), ref(2)), s, one)
			has(t, branch(api.OpOr, ref(1), ref(2)), s, one)
			has(t, branch(api.OpXor, ref(1), ref(2)), s, 0)
		}
		s := with(t, a)
		for op, want := range map[int]int{api.OpAnd: 0, api.OpOr: one, api.OpXor: one} {
			has(t, branch(op, ref(1), num(0)), s, want)
			has(t, branch(op, num(0), ref(1)), s, want)
			has(t, branch(op, num(0), num(0)), s, 0)
		}
	}
}

// P8.1: an expression at the limit of the depth, of each operator on each side.
func TestDeepExpressions(t *testing.T) {
	s := with(t, one, one)
	for _, op := range singles {
		x := num(one)
		for range api.MaxNest - 1 {
			x = branch(op, x)
		}
		want, err := expected(x, s)
		gives(t, x, s, want, err)
	}
	for _, op := range pairs {
		left, right := num(one), num(one)
		for range api.MaxNest - 1 {
			left, right = branch(op, left, num(3*one)), branch(op, num(3*one), right)
		}
		for _, x := range []api.Expr{left, right} {
			want, err := expected(x, s)
			gives(t, x, s, want, err)
		}
	}
	wide := num(1)
	for range api.MaxNest - 1 {
		wide = branch(api.OpAdd, wide, wide)
	}
	if syntax.Depth(wide) != api.MaxNest {
		t.Fatalf("the depth is %d", syntax.Depth(wide))
	}
	has(t, wide, s, 1<<15)
}

// P8.2
func TestTruth(t *testing.T) {
	if eval.Truth(0) {
		t.Error("0 is true")
	}
	for _, n := range append(samples(1000), 1, -1, 2, one, -one, 1<<32, 1<<62, -1<<62, top, -top, top+1, most, least, least+1) {
		if eval.Truth(n) != (n != 0) {
			t.Errorf("Truth(%d) = %v", n, eval.Truth(n))
		}
	}
}
