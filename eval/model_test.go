package eval_test

import (
	"math/big"

	"cnc/api"
	"cnc/cordic"
	"cnc/vars"
)

// The model is P8.1, with the numbers of P2.4 and P2.5, in numbers that can't overflow. Only SinCos and Angle, which are defined by their algorithms, are those of the program.

func large(n int) *big.Int { return big.NewInt(int64(n)) }

func plus(a, b *big.Int) *big.Int { return new(big.Int).Add(a, b) }

func times(a, b *big.Int) *big.Int { return new(big.Int).Mul(a, b) }

// down returns the floor of a / b for a positive b.
func down(a, b *big.Int) *big.Int {
	// Div leaves no negative rest.
	return new(big.Int).Div(a, b)
}

// near returns the floor of a / b + 1/2.
func near(a, b *big.Int) *big.Int {
	if b.Sign() < 0 {
		a, b = new(big.Int).Neg(a), new(big.Int).Neg(b)
	}
	return down(plus(times(a, large(2)), b), times(b, large(2)))
}

// valid returns n, or ErrRange.
func valid(n *big.Int) (int, api.Errno) {
	if n.CmpAbs(large(1000000000000000)) > 0 {
		return 0, api.ErrRange
	}
	return int(n.Int64()), api.OK
}

// expected is Eval for a right expression.
func expected(x api.Expr, s *vars.Store) (int, api.Errno) {
	var list []int
	for _, kid := range x.Kids {
		n, err := expected(kid, s)
		if err != api.OK {
			return 0, err
		}
		list = append(list, n)
	}
	switch len(list) {
	case 2:
		return expectedPair(x.Op, list[0], list[1])
	case 1:
		return expectedSingle(x.Op, list[0], s)
	}
	return x.N, api.OK
}

// expectedPair is the result of an operator of two values.
func expectedPair(op, a, b int) (int, api.Errno) {
	switch op {
	case api.OpAdd:
		return valid(plus(large(a), large(b)))
	case api.OpSub:
		return valid(plus(large(a), large(-b)))
	case api.OpMul:
		return valid(near(times(large(a), large(b)), large(1000000)))
	case api.OpDiv, api.OpMod:
		return expectedDivision(op, a, b)
	case api.OpAtan:
		return expectedAtan(a, b)
	}
	if holds(op, a, b) {
		return 1000000, api.OK
	}
	return 0, api.OK
}

func expectedDivision(op, a, b int) (int, api.Errno) {
	switch {
	case b == 0:
		return 0, api.ErrZero
	case op == api.OpDiv:
		return valid(near(times(large(a), large(1000000)), large(b)))
	}
	return valid(new(big.Int).Mod(large(a), large(b)))
}

func expectedAtan(a, b int) (int, api.Errno) {
	if a == 0 && b == 0 {
		return 0, api.ErrZero
	}
	y, x, limit := large(a), large(b), large(1<<40)
	for y.CmpAbs(limit) > 0 || x.CmpAbs(limit) > 0 {
		y, x = down(y, large(2)), down(x, large(2))
	}
	n, _ := cordic.Angle(int(x.Int64()), int(y.Int64()))
	return n, api.OK
}

// holds reports whether a comparison or a logical operator is true, by the order of a and b and by which of them are 0.
func holds(op, a, b int) bool {
	order := large(a).Cmp(large(b))
	others := 0
	for _, n := range []int{a, b} {
		if n != 0 {
			others++
		}
	}
	return map[int]bool{
		api.OpEQ: order == 0, api.OpNE: order != 0, api.OpGT: order > 0, api.OpGE: order >= 0, api.OpLT: order < 0, api.OpLE: order <= 0,
		api.OpAnd: others == 2, api.OpOr: others >= 1, api.OpXor: others == 1,
	}[op]
}

// expectedSingle is the result of an operator of one value.
func expectedSingle(op, a int, s *vars.Store) (int, api.Errno) {
	size := new(big.Int).Abs(large(a))
	switch op {
	case api.OpVar:
		return expectedVariable(a, s)
	case api.OpNeg:
		return valid(large(-a))
	case api.OpAbs:
		return valid(size)
	case api.OpSqrt:
		return expectedRoot(a)
	case api.OpRound:
		return valid(times(near(large(a), large(1000000)), large(1000000)))
	case api.OpFix:
		return signed(a, times(down(size, large(1000000)), large(1000000)))
	case api.OpFup:
		return signed(a, times(down(plus(size, large(999999)), large(1000000)), large(1000000)))
	}
	return expectedAngle(op, a)
}

func expectedVariable(a int, s *vars.Store) (int, api.Errno) {
	n, rest := new(big.Int).DivMod(large(a), large(1000000), new(big.Int))
	if rest.Sign() != 0 {
		return 0, api.ErrUnknown
	}
	return s.Get(int(n.Int64()))
}

func expectedRoot(a int) (int, api.Errno) {
	if a < 0 {
		return 0, api.ErrDomain
	}
	// The floor of twice the root, with 1 more, is twice the rounded root, or 1 more than that.
	twice := new(big.Int).Sqrt(times(large(a), large(4000000)))
	return valid(down(plus(twice, large(1)), large(2)))
}

func expectedAngle(op, a int) (int, api.Errno) {
	sine, cosine := cordic.SinCos(a)
	switch {
	case op == api.OpSin:
		return valid(near(times(large(sine), large(1000000)), large(1<<30)))
	case op == api.OpCos:
		return valid(near(times(large(cosine), large(1000000)), large(1<<30)))
	case cosine == 0:
		return 0, api.ErrZero
	}
	return valid(near(times(large(sine), large(1000000)), large(cosine)))
}

// signed returns the valid number of an absolute value with the sign of a.
func signed(a int, size *big.Int) (int, api.Errno) {
	if a < 0 {
		size = new(big.Int).Neg(size)
	}
	return valid(size)
}
