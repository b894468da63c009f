package eval_test

import (
	"math/rand/v2"
	"testing"

	"cnc/api"
	"cnc/eval"
	"cnc/syntax"
	"cnc/vars"
)

// agrees fails the test unless x has the value of the model, and the expression that Line reads from its Print has it, too. It reports whether there is no error.
func agrees(t *testing.T, x api.Expr, s *vars.Store) bool {
	t.Helper()
	want, wantErr := expected(x, s)
	text := syntax.Print(x)
	for _, y := range []api.Expr{x, parsed(t, text), parsed(t, "["+text+"]"), parsed(t, "+ "+text)} {
		if n, err := eval.Eval(y, s); n != want || err != wantErr {
			t.Errorf("Eval(%.200s) = %d, %d, want %d, %d", text, n, err, want, wantErr)
		}
	}
	return wantErr == api.OK
}

// over returns expressions of op over each of the Kids, at each of its places.
func over(op int, list []api.Expr) []api.Expr {
	var found []api.Expr
	for i, kid := range list {
		if operands(op) == 1 {
			found = append(found, branch(op, kid))
			continue
		}
		other := list[(i*7+3)%len(list)]
		found = append(found, branch(op, kid, other), branch(op, other, kid), branch(op, kid, num(3*one)), branch(op, num(5*one/2), kid))
	}
	return found
}

// Consequences: each operator over each operator, over numbers of either sign and over variables.
func TestTextsOfNestedOperators(t *testing.T) {
	s := filled(t, 0)
	put(t, s, 1, -3*one/2)
	put(t, s, 2, 7*one)
	leaves := []api.Expr{num(0), num(one), num(2 * one), num(one / 4), constant(-one), constant(-5 * one / 2), ref(1), ref(2), ref(100), num(top - 1)}
	good := 0
	for _, inner := range append(pairs, singles...) {
		kids := over(inner, leaves)
		for _, outer := range append(pairs, singles...) {
			for _, x := range over(outer, kids) {
				if agrees(t, x, s) {
					good++
				}
			}
		}
	}
	if good < 20000 {
		t.Errorf("only %d expressions have a value", good)
	}
}

// Consequences: three operators with two Kids, in all forms in which their texts differ by nothing but brackets.
func TestTextsOfThreeOperators(t *testing.T) {
	s := vars.New()
	a, b, c, d := num(7*one), constant(-5*one/2), num(3*one), constant(-one)
	for _, p := range pairs {
		for _, q := range pairs {
			for _, r := range pairs {
				agrees(t, branch(p, a, branch(q, b, branch(r, c, d))), s)
				agrees(t, branch(p, a, branch(r, branch(q, b, c), d)), s)
				agrees(t, branch(q, branch(p, a, b), branch(r, c, d)), s)
				agrees(t, branch(r, branch(p, a, branch(q, b, c)), d), s)
				agrees(t, branch(r, branch(q, branch(p, a, b), c), d), s)
			}
		}
	}
}

// Consequences: minus signs in texts, which bind more tightly than the operators with two Kids.
func TestTextsWithMinusSigns(t *testing.T) {
	s := with(t, 4*one, -9*one)
	for text, want := range map[string]int{
		"-1": -one, "--1": one, "-+-+1": one, "-#1": -4 * one, "-#2": 9 * one, "- -#2": -9 * one, "-[1 + 2]": -3 * one, "-1 + 2": one, "-2 * -3": 6 * one, "2 - -3": 5 * one, "-7 MOD 3": 2 * one, "-[7 MOD 3]": -one,
		"1 - 2 - 3": -4 * one, "1 - [2 - 3]": 2 * one, "8 / 4 / 2": one, "8 / [4 / 2]": 4 * one, "1 + 2 * 3": 7 * one, "[1 + 2] * 3": 9 * one, "-ABS[-3]": -3 * one, "-SQRT[4] * -2": 4 * one,
		"-1 LT -0.5": one, "1 EQ 1 AND 2 GT 3": 0, "1 OR 0 XOR 1": 0, "0 AND 0 OR 1": one, "0 AND [0 OR 1]": 0, "1 + 1 EQ 2": one, "1 + [1 EQ 2]": one, "-ATAN[-1]/[-1]": -225 * one,
	} {
		x := parsed(t, text)
		has(t, x, s, want)
		agrees(t, x, s)
	}
}

// random makes right expressions, the same ones in every run.
type random struct{ *rand.Rand }

func (r random) leaf() api.Expr {
	switch r.IntN(6) {
	case 0:
		return num(r.IntN(top))
	case 1:
		return branch(api.OpNeg, num(r.IntN(100*one)))
	case 2:
		return ref(1 + r.IntN(35))
	case 3:
		return ref(100 + r.IntN(100))
	case 4:
		return num(45 * one * r.IntN(20))
	}
	return num(r.IntN(100) * one / 4)
}

func (r random) expr(depth int) api.Expr {
	if depth == 1 || r.IntN(5) == 0 {
		return r.leaf()
	}
	if r.IntN(3) == 0 {
		// The first one is OpVar, whose Kid is seldom the number of a variable.
		return branch(singles[1+r.IntN(len(singles)-1)], r.expr(depth-1))
	}
	return branch(pairs[r.IntN(len(pairs))], r.expr(depth-1), r.expr(depth-1))
}

// Consequences
func TestTextsOfRandomExpressions(t *testing.T) {
	r := random{rand.New(rand.NewPCG(8, 2))}
	s := vars.New()
	for n := range 33 {
		put(t, s, n+1, r.IntN(40*one)-20*one)
		put(t, s, n+100, r.IntN(2*top)-top)
		put(t, s, n+133, r.IntN(20)*one)
	}
	good, deep := 0, 0
	for i := range 30000 {
		x := r.expr(1 + i%10)
		if agrees(t, x, s) {
			good++
			if syntax.Depth(x) > 5 {
				deep++
			}
		}
	}
	if good < 10000 || deep < 1000 {
		t.Errorf("only %d expressions have a value, %d of them deep ones", good, deep)
	}
}
