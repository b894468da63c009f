package syntax_test

import (
	"math"
	"slices"
	"strings"
	"testing"

	"cnc/api"
	"cnc/fixed"
	"cnc/syntax"
)

// P6.3, P6.4: an expression of each operator with an expression of each operator as each of its Kids.
func TestExpressionsOfEachOperator(t *testing.T) {
	for _, a := range samples() {
		checkExpr(t, a, depth(a))
		for op := range operands {
			switch operands[op] {
			case 1:
				checkExpr(t, branch(op, a), 1+depth(a))
			case 2:
				for _, b := range samples() {
					checkExpr(t, branch(op, a, b), 1+max(depth(a), depth(b)))
				}
			}
		}
	}
}

// P6.4: fixed texts, so that the tests do not depend on the templates alone.
func TestPrint(t *testing.T) {
	a, b, c := num(one), num(2*one), num(3*one)
	v := leaves(api.OpVar)
	for _, x := range []struct {
		want string
		x    api.Expr
	}{
		{"1", a}, {"0", num(0)}, {"0.000001", num(1)}, {"12.5", num(12500000)}, {"999999999.999999", num(api.MaxNum - 1)},
		{"#1", v}, {"##1", branch(1, v)}, {"###1", branch(1, branch(1, v))}, {"#0.5", branch(1, num(500000))}, {"#[-1]", branch(1, branch(2, a))}, {"#[1 + 2]", branch(1, leaves(3))}, {"#[SIN[1]]", branch(1, leaves(8))}, {"#[ATAN[1]/[2]]", branch(1, leaves(11))}, {"##[1 MOD 2]", branch(1, branch(1, leaves(7)))},
		{"-1", branch(2, a)}, {"-#1", branch(2, v)}, {"-[-1]", branch(2, branch(2, a))}, {"-[-[-1]]", branch(2, branch(2, branch(2, a)))}, {"-[1 + 2]", branch(2, leaves(3))}, {"-SIN[1]", branch(2, leaves(8))}, {"-ATAN[1]/[2]", branch(2, leaves(11))}, {"-#[-1]", branch(2, branch(1, branch(2, a)))},
		{"1 + 2", leaves(3)}, {"1 - 2", leaves(4)}, {"1 * 2", leaves(5)}, {"1 / 2", leaves(6)}, {"1 MOD 2", leaves(7)}, {"1 EQ 2", leaves(17)}, {"1 NE 2", leaves(18)}, {"1 GT 2", leaves(19)}, {"1 GE 2", leaves(20)}, {"1 LT 2", leaves(21)}, {"1 LE 2", leaves(22)}, {"1 AND 2", leaves(23)}, {"1 OR 2", leaves(24)}, {"1 XOR 2", leaves(25)},
		{"SIN[1]", leaves(8)}, {"COS[1]", leaves(9)}, {"TAN[1]", leaves(10)}, {"ATAN[1]/[2]", leaves(11)}, {"SQRT[1]", leaves(12)}, {"ABS[1]", leaves(13)}, {"ROUND[1]", leaves(14)}, {"FIX[1]", leaves(15)}, {"FUP[1]", leaves(16)},
		{"[1 + 2] + 3", branch(3, leaves(3), c)}, {"3 + [1 + 2]", branch(3, c, leaves(3))}, {"[1 * 2] + [1 / 2]", branch(3, leaves(5), leaves(6))}, {"[-1] - [-2]", branch(4, branch(2, a), branch(2, b))}, {"#1 - SIN[1]", branch(4, v, leaves(8))}, {"ATAN[1]/[2] / ATAN[1]/[2]", branch(6, leaves(11), leaves(11))},
		{"SIN[-1]", branch(8, branch(2, a))}, {"SIN[1 + 2]", branch(8, leaves(3))}, {"ABS[SIN[1]]", branch(13, leaves(8))}, {"ATAN[-1]/[1 OR 2]", branch(11, branch(2, a), leaves(24))}, {"FIX[#[1 - 2]]", branch(15, branch(1, leaves(4)))},
		{"[[1 OR 2] AND 3] EQ [-[1 + [2 * 3]]]", branch(17, branch(23, leaves(24), c), branch(2, branch(3, a, branch(5, b, c))))},
	} {
		if got := syntax.Print(x.x); got != x.want {
			t.Errorf("Print(%+v) = %q, want %q", x.x, got, x.want)
		}
		reads(t, x.want, x.x)
	}
}

// P6.3: the depth is the greatest one of all Kids, wherever they stand and however many they are.
func TestDepth(t *testing.T) {
	leaf := num(one)
	for deep := range 40 {
		x := chain(api.OpAbs, 0, deep+1)
		want := min(deep+1, 17)
		for _, y := range []api.Expr{x, {Op: 77, N: -5, Kids: x.Kids}} {
			if got := syntax.Depth(y); got != want {
				t.Errorf("Depth of %d levels = %d, want %d", deep+1, got, want)
			}
		}
		for count := range 5 {
			for at := range count {
				kids := slices.Repeat([]api.Expr{leaf}, count)
				kids[at] = x
				if got, want := syntax.Depth(branch(api.OpAtan, kids...)), min(deep+2, 17); got != want {
					t.Errorf("Depth of %d levels as Kid %d of %d = %d, want %d", deep+1, at, count, got, want)
				}
				if count == 1 {
					continue
				}
				kids[(at+1)%count] = branch(3, leaf, leaf)
				if got, want := syntax.Depth(api.Expr{Kids: kids}), min(1+max(deep+1, 2), 17); got != want {
					t.Errorf("Depth of %d levels beside 2 levels = %d, want %d", deep+1, got, want)
				}
			}
		}
	}
	for _, x := range []api.Expr{{}, {Op: -1}, {Op: 26}, {N: -1}, {Kids: []api.Expr{}}, {Op: api.OpAdd}, {Op: math.MaxInt, N: math.MinInt}} {
		if got := syntax.Depth(x); got != 1 {
			t.Errorf("Depth(%+v) = %d", x, got)
		}
	}
}

// P6.3, P6.4: operators that do not exist, and too few or too many Kids.
func TestOperatorsAndKids(t *testing.T) {
	a := num(one)
	for _, op := range []int{-1, -2, 26, 27, 100, 255, 256, 1 << 32, math.MaxInt, math.MinInt} {
		for count := range 4 {
			wrong(t, branch(op, slices.Repeat([]api.Expr{a}, count)...), min(count, 1)+1)
		}
	}
	for op, count := range operands {
		for kids := range 6 {
			x := branch(op, slices.Repeat([]api.Expr{a}, kids)...)
			if op == api.OpNum {
				x.N = 5
			}
			if kids == count {
				checkExpr(t, x, min(kids, 1)+1)
			} else {
				wrong(t, x, min(kids, 1)+1)
			}
		}
	}
}

// P6.3, P6.4: N of a number that is out of range, and N of another operator.
func TestNumbersOfExpressions(t *testing.T) {
	for _, n := range []int{0, 1, 999999, one, api.MaxNum / 2, api.MaxNum - 2, api.MaxNum - 1} {
		checkExpr(t, num(n), 1)
		if got := syntax.Print(num(n)); got != fixed.Format(n) {
			t.Errorf("Print of the number %d = %q", n, got)
		}
	}
	for _, n := range []int{-1, -one, -api.MaxNum, api.MaxNum, api.MaxNum + 1, 2 * api.MaxNum, math.MaxInt, math.MinInt, 1 << 62} {
		wrong(t, num(n), 1)
	}
	for op := 1; op < len(operands); op++ {
		for _, n := range []int{1, -1, op, one, api.MaxNum, math.MaxInt, math.MinInt} {
			x := leaves(op)
			x.N = n
			wrong(t, x, 2)
		}
	}
}

// wrongExprs returns expressions that are not right, each for one reason.
func wrongExprs() []api.Expr {
	a := num(one)
	return []api.Expr{{Op: 26}, {Op: -1}, {N: -1}, {N: api.MaxNum}, {Kids: []api.Expr{a}}, {Op: api.OpVar}, {Op: api.OpNeg}, {Op: api.OpNeg, Kids: []api.Expr{a, a}}, {Op: api.OpAdd, Kids: []api.Expr{a}}, {Op: api.OpXor, Kids: []api.Expr{a, a, a}}, {Op: api.OpSin, N: 1, Kids: []api.Expr{a}}, {Op: api.OpAtan, Kids: []api.Expr{a}}, {Op: api.OpFup}, {Op: 26, Kids: []api.Expr{a, a}}}
}

// P6.3, P6.4: an expression that is not right makes all those wrong in which it stands.
func TestWrongKids(t *testing.T) {
	for _, bad := range wrongExprs() {
		wrong(t, bad, depth(bad))
		for op := range operands {
			for at := range operands[op] {
				x := leaves(op)
				x.Kids[at] = bad
				wrong(t, x, 1+depth(bad))
				for _, y := range []api.Expr{branch(2, x), branch(3, num(0), x), branch(11, x, num(0)), branch(1, branch(1, branch(13, x)))} {
					wrong(t, y, depth(y))
				}
			}
		}
	}
}

// P6.3, P6.4: random right expressions, which Line reads again, and the same ones with a change.
func TestRandomExpressions(t *testing.T) {
	r := newRandom(4)
	for range 3000 {
		x := r.expr(1 + r.IntN(7))
		checkExpr(t, x, depth(x))
		reads(t, syntax.Print(x), x)
		bad := copyExpr(x)
		spot := &bad
		for len(spot.Kids) > 0 && r.IntN(3) > 0 {
			spot = &spot.Kids[r.IntN(len(spot.Kids))]
		}
		*spot = wrongExprs()[r.IntN(len(wrongExprs()))]
		wrong(t, bad, min(depth(bad), 17))
	}
}

// R1, R2: expressions that share memory, that contain themselves, and that are very deep or wide.
func TestUnusualExpressions(t *testing.T) {
	shared := num(one)
	for deep := 1; deep <= 12; deep++ {
		checkExpr(t, shared, deep)
		gives(t, "#1="+syntax.Print(shared), set(shared))
		shared = branch(api.OpAdd, shared, shared)
	}
	for range 100 {
		shared = branch(api.OpAdd, shared, shared)
	}
	wrongShared(t, shared)
	for op, count := range operands {
		kids := make([]api.Expr, max(count, 1))
		for i := range kids {
			kids[i] = api.Expr{Op: op, Kids: kids}
		}
		wrongShared(t, kids[0])
	}
	long := num(one)
	for range 100000 {
		long = branch(api.OpNeg, long)
	}
	wrongShared(t, long)
	wide := api.Expr{Op: api.OpAdd, Kids: make([]api.Expr, 100000)}
	wrong(t, wide, 2)
	wide.Kids[99999] = leaves(3)
	wrong(t, wide, 3)
}

// wrongShared is wrong and refused for an expression that is too deep to be shown.
func wrongShared(t *testing.T, x api.Expr) {
	t.Helper()
	if deep, right, text := syntax.Depth(x), syntax.Right(x), syntax.Print(x); deep != 17 || right || text != "" {
		t.Errorf("depth %d, right %v, %d bytes", deep, right, len(text))
	}
	for i, b := range deepBlocks(x) {
		if valid, text := syntax.Valid(b), syntax.Format(b); valid || text != "" || syntax.Text([]api.Block{b, b}) != "\n\n" {
			t.Errorf("block %d: valid %v, %d bytes", i, valid, len(text))
		}
	}
}

// P6.4: the greatest expressions have long texts.
func TestGreatestExpressions(t *testing.T) {
	x := num(api.MaxNum - 1)
	for range 15 {
		x = branch(api.OpXor, x, x)
	}
	checkExprText(t, x)
	y := num(api.MaxNum - 1)
	for range 15 {
		y = branch(api.OpAtan, y, y)
	}
	checkExprText(t, y)
}

// checkExprText compares the text of a great expression with the templates.
func checkExprText(t *testing.T, x api.Expr) {
	t.Helper()
	text := printed(x)
	if got := syntax.Print(x); got != text {
		t.Errorf("%d bytes, want %d", len(got), len(text))
	}
	b := api.Block{Words: slices.Repeat([]api.Word{word('X', x)}, 24)}
	if got, want := len(syntax.Format(b)), 24*(len(text)+3)+23; got != want {
		t.Errorf("a block of %d bytes, want %d", got, want)
	}
	if got := syntax.Format(b); strings.Count(got, "X[") != 24 {
		t.Errorf("%d words", strings.Count(got, "X["))
	}
}
