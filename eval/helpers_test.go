package eval_test

import (
	"math"
	"math/rand/v2"
	"slices"
	"testing"

	"cnc/api"
	"cnc/eval"
	"cnc/syntax"
	"cnc/vars"
)

const (
	most  = math.MaxInt
	least = math.MinInt
	one   = api.Million
	top   = api.MaxNum // the greatest valid number
	far   = 1 << 40    // the farthest coordinate that has a direction
)

// The operators with two Kids, and those with one.
var (
	pairs   = []int{api.OpAdd, api.OpSub, api.OpMul, api.OpDiv, api.OpMod, api.OpAtan, api.OpEQ, api.OpNE, api.OpGT, api.OpGE, api.OpLT, api.OpLE, api.OpAnd, api.OpOr, api.OpXor}
	singles = []int{api.OpVar, api.OpNeg, api.OpSin, api.OpCos, api.OpTan, api.OpSqrt, api.OpAbs, api.OpRound, api.OpFix, api.OpFup}
)

// operands returns the number of Kids of an operator.
func operands(op int) int {
	switch {
	case slices.Contains(pairs, op):
		return 2
	case slices.Contains(singles, op):
		return 1
	}
	return 0
}

// corners are valid numbers at which an operator may change its result in another way than elsewhere.
func corners() []int {
	list := []int{0}
	for _, n := range []int{
		1, 2, 3, one/2 - 1, one / 2, one/2 + 1, one - 1, one, one + 1, 3 * one / 2, 2 * one, 5*one/2 - 1, 5 * one / 2, 5*one/2 + 1, 3 * one, 33 * one, 100 * one, 5021 * one,
		// The product of the first two is not valid if one of them is the second one.
		31622776601, 31622776602, 1 << 31, 1 << 32, far - 1, far, far + 1, 2*far - 1, 2 * far, 2*far + 1, top / 2, top/2 + 1, top - one, top - 2, top - 1, top,
	} {
		list = append(list, n, -n)
	}
	return list
}

// angles returns the multiples of 45 degrees with their neighbors, in several turns of either direction and at the ends of the range of valid numbers.
func angles() []int {
	list := []int{30 * one, -30 * one, 60 * one, 1000 * one, top, -top, top - 1, 1 - top}
	last := top / (45 * one)
	for _, from := range []int{0, 8, -8, 16, 800, -8000, last - 8, 8 - last} {
		for eighth := from - 8; eighth <= from+8; eighth++ {
			for d := -1; d <= 1; d++ {
				list = append(list, eighth*45*one+d)
			}
		}
	}
	return list
}

// samples returns valid numbers of all lengths and both signs, the same ones in every run.
func samples(count int) []int {
	source := rand.New(rand.NewPCG(8, 1))
	list := make([]int, 0, count)
	for len(list) < count {
		n := int(source.Uint64()) >> source.IntN(64)
		if n >= -top && n <= top {
			list = append(list, n)
		}
	}
	return list
}

func num(n int) api.Expr {
	return api.Expr{Op: api.OpNum, N: n}
}

func branch(op int, kids ...api.Expr) api.Expr {
	return api.Expr{Op: op, Kids: kids}
}

// ref returns the variable n.
func ref(n int) api.Expr {
	return branch(api.OpVar, num(n*one))
}

// constant returns an expression without variables whose value is the valid number n. Only some numbers are an OpNum.
func constant(n int) api.Expr {
	switch {
	case n < 0:
		return branch(api.OpNeg, constant(-n))
	case n == top:
		return branch(api.OpAdd, num(top-1), num(1))
	}
	return num(n)
}

// broken returns an expression of depth 3 or less for each error that an operator may have.
func broken() map[api.Errno]api.Expr {
	return map[api.Errno]api.Expr{
		api.ErrZero:    branch(api.OpDiv, num(one), num(0)),
		api.ErrUnknown: ref(34),
		api.ErrRange:   branch(api.OpMul, num(top-1), num(top-1)),
		api.ErrDomain:  branch(api.OpSqrt, branch(api.OpNeg, num(one))),
	}
}

// parsed returns the expression that a text is read as.
func parsed(t *testing.T, text string) api.Expr {
	t.Helper()
	b, _, err := syntax.Line("#1=" + text)
	if err != api.OK {
		t.Fatalf("Line of %.200q = %d", text, err)
	}
	return b.X
}

// with returns a store whose first local variables have the values.
func with(t *testing.T, list ...int) *vars.Store {
	t.Helper()
	s := vars.New()
	for i, v := range list {
		put(t, s, i+1, v)
	}
	return s
}

// put gives the variable n the value v.
func put(t *testing.T, s *vars.Store, n, v int) {
	t.Helper()
	err := s.Set(n, v)
	if n >= api.FirstSystem {
		err = s.Host(n, v)
	}
	if err != api.OK {
		t.Fatalf("the variable %d does not become %d: %d", n, v, err)
	}
}

// gives fails the test unless x has the wanted value and error, twice in a row, and is not changed.
func gives(t *testing.T, x api.Expr, s *vars.Store, want int, wantErr api.Errno) {
	t.Helper()
	before := copied(x)
	for range 2 {
		if n, err := eval.Eval(x, s); n != want || err != wantErr {
			t.Errorf("Eval(%s) = %d, %d, want %d, %d", shown(x), n, err, want, wantErr)
		}
	}
	if !same(x, before) {
		t.Errorf("%+v became %+v", before, x)
	}
}

// has fails the test unless x has the wanted value.
func has(t *testing.T, x api.Expr, s *vars.Store, want int) {
	t.Helper()
	gives(t, x, s, want, api.OK)
}

// fails fails the test unless x has the wanted error.
func fails(t *testing.T, x api.Expr, s *vars.Store, want api.Errno) {
	t.Helper()
	gives(t, x, s, 0, want)
}

// shown returns a beginning of the text of an expression, which is empty for one that is not right.
func shown(x api.Expr) string {
	text := syntax.Print(x)
	return text[:min(len(text), 200)]
}

func copied(x api.Expr) api.Expr {
	kids := make([]api.Expr, len(x.Kids))
	for i, kid := range x.Kids {
		kids[i] = copied(kid)
	}
	x.Kids = kids
	return x
}

func same(a, b api.Expr) bool {
	return a.Op == b.Op && a.N == b.N && slices.EqualFunc(a.Kids, b.Kids, same)
}

// numbers returns the numbers of all variables, and of some that do not exist.
func numbers() []int {
	var list []int
	for n := range 6100 {
		if n < 250 || n > 4900 {
			list = append(list, n)
		}
	}
	return list
}

// contents returns the values of all variables of all levels of a store.
func contents(s *vars.Store) []int {
	list := []int{s.Level()}
	// The copy is the one that goes down.
	s = s.Copy()
	for {
		for _, n := range numbers() {
			v, _ := s.Get(n)
			list = append(list, v)
		}
		if s.Pop() != api.OK {
			return list
		}
	}
}

// filled returns a store at a level, in which each variable of each level has a value of its own.
func filled(t *testing.T, level int) *vars.Store {
	t.Helper()
	s := vars.New()
	for n := api.FirstCommon; n <= api.LastCommon; n++ {
		put(t, s, n, n*one+1)
	}
	for n := api.FirstSystem; n <= api.LastSystem; n++ {
		put(t, s, n, -n*one)
	}
	for at := range level + 1 {
		if at > 0 && s.Push(nil) != api.OK {
			t.Fatal("there are not so many levels")
		}
		for n := 1; n <= api.Locals; n++ {
			put(t, s, n, local(at, n))
		}
	}
	return s
}

// local returns the value that filled gives a local variable of a level.
func local(level, n int) int {
	return (level+1)*100*one + n
}
