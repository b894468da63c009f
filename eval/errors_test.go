package eval_test

import (
	"slices"
	"testing"

	"cnc/api"
	"cnc/eval"
	"cnc/syntax"
	"cnc/vars"
)

// refused fails the test unless x is no right expression, for which Eval has ErrArg, whether it stands alone, beside an expression with an error of its own, or in one.
func refused(t *testing.T, x api.Expr) {
	t.Helper()
	if syntax.Right(x) {
		t.Errorf("%+v is right", x)
	}
	s := with(t, one)
	list := []api.Expr{x, branch(api.OpNeg, x), branch(api.OpVar, x), branch(api.OpDiv, x, num(0)), branch(api.OpDiv, num(0), x), branch(api.OpAdd, x, x)}
	for _, bad := range broken() {
		for _, op := range []int{api.OpAdd, api.OpMod, api.OpAtan, api.OpLT, api.OpOr} {
			list = append(list, branch(op, bad, x), branch(op, x, bad))
		}
		list = append(list, branch(api.OpMul, bad, branch(api.OpSub, num(one), branch(api.OpSin, x))))
	}
	for _, whole := range list {
		fails(t, whole, s, api.ErrArg)
	}
}

// all returns all operators.
func all() []int {
	return slices.Concat([]int{api.OpNum}, singles, pairs)
}

// kids returns a number of right expressions without errors.
func kids(count int) []api.Expr {
	return []api.Expr{num(one), num(2 * one), num(3 * one), num(4 * one), num(5 * one)}[:count]
}

// P8.1
func TestAllOperatorsAreTested(t *testing.T) {
	list := all()
	slices.Sort(list)
	for i, op := range list {
		if op != i {
			t.Fatalf("the operators are %v", list)
		}
	}
	if len(list) != 26 {
		t.Errorf("there are %d operators", len(list))
	}
}

// P8.1
func TestUnknownOperators(t *testing.T) {
	for _, op := range []int{-1, -2, -26, 26, 27, 99, 255, 256, 256 + api.OpAdd, 1 << 32, 1<<32 + api.OpNeg, -1<<32 + api.OpSin, most, least, least + 1} {
		for count := range 4 {
			refused(t, branch(op, kids(count)...))
		}
		refused(t, api.Expr{Op: op, N: one})
	}
}

// P8.1
func TestTooFewAndTooManyKids(t *testing.T) {
	for _, op := range all() {
		for count := range 6 {
			if count != operands(op) {
				refused(t, branch(op, kids(count)...))
			}
		}
		has(t, branch(api.OpMul, num(0), branch(api.OpEQ, branch(op, kids(operands(op))...), num(0))), vars.New(), 0)
	}
}

// P8.1
func TestNumbersThatAreNotRight(t *testing.T) {
	for _, n := range []int{-1, -one, -top, top, top + 1, 2 * top, 1 << 62, most, -most, least} {
		refused(t, num(n))
	}
	for _, op := range all() {
		if op == api.OpNum {
			continue
		}
		for _, n := range []int{1, -1, one, most, least} {
			refused(t, api.Expr{Op: op, N: n, Kids: kids(operands(op))})
		}
	}
}

// P8.1: a Kid that is wrong, at each place of each operator and at several depths.
func TestKidsThatAreWrong(t *testing.T) {
	for _, op := range all() {
		for place := range operands(op) {
			for _, wrong := range []api.Expr{num(-1), num(top), branch(26), branch(api.OpNeg), branch(api.OpAdd, num(one)), branch(api.OpVar, num(one), num(one))} {
				list := slices.Clone(kids(operands(op)))
				list[place] = wrong
				x := branch(op, list...)
				refused(t, x)
				refused(t, branch(api.OpAbs, x))
				refused(t, branch(api.OpGE, branch(api.OpCos, num(one)), branch(api.OpFix, x)))
			}
		}
	}
}

// P8.1: expressions that are one level too deep, or much deeper, of each operator on each side.
func TestExpressionsThatAreTooDeep(t *testing.T) {
	s := with(t, one, one)
	for _, op := range slices.Concat(singles, pairs) {
		for place := range operands(op) {
			x := num(one)
			for depth := 2; depth <= 40; depth++ {
				list := slices.Clone(kids(operands(op)))
				list[place] = x
				x = branch(op, list...)
				if depth > api.MaxNest {
					fails(t, x, s, api.ErrArg)
					continue
				}
				want, err := expected(x, s)
				gives(t, x, s, want, err)
			}
		}
	}
}

// P8.1, R1: an expression that contains itself has no end.
func TestExpressionsThatContainThemselves(t *testing.T) {
	s := vars.New()
	for _, op := range slices.Concat(singles, pairs) {
		for place := range operands(op) {
			list := slices.Clone(kids(operands(op)))
			x := branch(op, list...)
			list[place] = x
			// It can be neither copied nor shown.
			if n, err := eval.Eval(x, s); n != 0 || err != api.ErrArg {
				t.Errorf("Eval of an endless expression of %d = %d, %d", op, n, err)
			}
		}
	}
}

// P8.1: of the errors of several Kids the first one decides, and an error of a Kid comes before that of the operator.
func TestErrorsOfKids(t *testing.T) {
	s := vars.New()
	for first, x := range broken() {
		fails(t, x, s, first)
		for _, op := range singles {
			fails(t, branch(op, x), s, first)
		}
		for _, op := range pairs {
			for _, n := range []int{0, 1, one, top - 1} {
				fails(t, branch(op, x, num(n)), s, first)
				fails(t, branch(op, num(n), x), s, first)
				fails(t, branch(op, branch(api.OpNeg, num(n)), x), s, first)
			}
			for second, y := range broken() {
				fails(t, branch(op, x, y), s, first)
				fails(t, branch(op, y, x), s, second)
			}
		}
	}
}

// P8.1: of the errors at several depths that one decides which is met first.
func TestErrorsOfKidsOfKids(t *testing.T) {
	s := vars.New()
	for first, x := range broken() {
		for second, y := range broken() {
			for _, op := range pairs {
				deep := branch(api.OpAdd, num(one), branch(api.OpMul, branch(api.OpNeg, x), num(0)))
				fails(t, branch(op, deep, y), s, first)
				fails(t, branch(op, y, deep), s, second)
				fails(t, branch(op, branch(api.OpSub, x, y), y), s, first)
				fails(t, branch(op, num(0), branch(api.OpMod, x, y)), s, first)
				fails(t, branch(op, branch(api.OpMod, y, num(0)), x), s, second)
			}
		}
	}
}

// P8.1: the errors of an operator behind those of its Kids, in texts.
func TestOrderOfErrors(t *testing.T) {
	s := with(t, top)
	for text, want := range map[string]api.Errno{
		"#34 / 0": api.ErrUnknown, "#34 MOD 0": api.ErrUnknown, "SQRT[-1] / 0": api.ErrDomain, "[#1 + #1] MOD 0": api.ErrRange,
		"SQRT[0 - #34]": api.ErrUnknown, "SQRT[0 - 1 / 0]": api.ErrZero, "#[1 / 0]": api.ErrZero, "#[SQRT[-1]]": api.ErrDomain, "#[#1 + 1]": api.ErrRange,
		"TAN[90 + #34]": api.ErrUnknown, "TAN[90] + #34": api.ErrZero, "#34 + TAN[90]": api.ErrUnknown,
		"ATAN[0]/[#34]": api.ErrUnknown, "ATAN[#34]/[0]": api.ErrUnknown, "ATAN[0]/[0 * #34]": api.ErrUnknown, "ATAN[SQRT[-1]]/[1 / 0]": api.ErrDomain, "ATAN[1 / 0]/[SQRT[-1]]": api.ErrZero,
		"#1 * #1 / 0": api.ErrRange, "1 / 0 * #1": api.ErrZero, "[1 / 0] / [0 / 0]": api.ErrZero, "#0.5 / #34": api.ErrUnknown, "#1 + #1 / 0": api.ErrZero,
	} {
		fails(t, parsed(t, text), s, want)
	}
}
