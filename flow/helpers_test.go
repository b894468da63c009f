package flow_test

import (
	"math"
	"slices"
	"strconv"
	"strings"
	"testing"

	"cnc/api"
	"cnc/fixed"
	"cnc/flow"
	"cnc/library"
	"cnc/syntax"
	"cnc/vars"
)

const (
	most  = math.MaxInt
	least = math.MinInt
	one   = api.Million
)

// read returns the blocks of a text whose lines are divided by | signs.
func read(t *testing.T, text string) []api.Block {
	t.Helper()
	list, at, err := syntax.Parse(strings.ReplaceAll(text, "|", "\n"))
	if err != api.OK {
		t.Fatalf("%.300q is not a program: %d at %d", text, err, at)
	}
	return list
}

// build returns the library of blocks, which must have one.
func build(t *testing.T, list []api.Block) api.Library {
	t.Helper()
	l, at, err := library.Build(list)
	if err != api.OK {
		t.Fatalf("Build(%.300q) = %d, %d", syntax.Text(list), at, err)
	}
	return l
}

// start returns a machine for a text, which must have a main program.
func start(t *testing.T, text string, skip bool) *flow.Machine {
	t.Helper()
	m, err := flow.New(build(t, read(t, text)), skip)
	if m == nil || err != api.OK {
		t.Fatalf("New(%.300q) = %v, %d", text, m, err)
	}
	return m
}

// shown writes a result of Next: the index and the words of a block, end, or the number of the error.
func shown(s api.Step, err api.Errno) string {
	switch {
	case err != api.OK && s.Kind == 0 && s.Block == 0 && len(s.Values) == 0:
		return "error " + strconv.Itoa(int(err))
	case err == api.OK && s.Kind == api.StepEnd && s.Block == 0 && len(s.Values) == 0:
		return "end"
	case err != api.OK || s.Kind != api.StepBlock:
		return "a wrong result"
	}
	return strconv.Itoa(s.Block) + ":" + texts(s.Values)
}

// texts writes values like the words of a block.
func texts(list []api.Value) string {
	s := ""
	for _, v := range list {
		s += string(rune(v.Letter)) + fixed.Format(v.N)
	}
	return s
}

// numbers writes the steps, the calls and the level of the variables.
func numbers(m *flow.Machine) string {
	return strconv.Itoa(m.Steps()) + "/" + strconv.Itoa(m.Depth()) + "/" + strconv.Itoa(m.Vars().Level())
}

// next calls Next and writes the result and the numbers behind it.
func next(m *flow.Machine) string {
	s, err := m.Next()
	return shown(s, err) + " " + numbers(m)
}

// gives fails the test unless the next results are the wanted ones. If the last of them ends the machine, it stays as it is.
func gives(t *testing.T, m *flow.Machine, want ...string) {
	t.Helper()
	for i, w := range want {
		if got := next(m); got != w {
			t.Fatalf("the result %d is %q, want %q", i, got, w)
		}
	}
	last := want[len(want)-1]
	if strings.HasPrefix(last, "e") {
		stays(t, m, last)
	}
}

// stays fails the test unless the machine goes on giving the same result, and is not changed by that.
func stays(t *testing.T, m *flow.Machine, want string) {
	t.Helper()
	before := contents(m.Vars())
	for range 3 {
		if got := next(m); got != want {
			t.Fatalf("a later result is %q, want %q", got, want)
		}
	}
	if !slices.Equal(contents(m.Vars()), before) {
		t.Fatal("a later Next has changed the variables")
	}
}

// runs fails the test unless the text gives the wanted results, at once and by way of copies, and those of the model.
func runs(t *testing.T, text string, want ...string) {
	t.Helper()
	t.Run(text[:min(len(text), 60)], func(t *testing.T) {
		t.Helper()
		gives(t, start(t, text, false), want...)
		m := start(t, text, false)
		for i := range want {
			original := m
			m = m.Copy()
			gives(t, original, want[i:]...)
			next(m)
		}
		follow(t, build(t, read(t, text)), rules{})
	})
}

// contents returns the level of a store and the values of all its variables at all levels.
func contents(s *vars.Store) []int {
	return append(ownContents(s), values(s, api.FirstSystem, api.LastSystem)...)
}

// ownContents returns the same without the system variables, which no program changes.
func ownContents(s *vars.Store) []int {
	list := append(values(s, api.FirstCommon, api.LastCommon), s.Level())
	// The copy is the one that goes down.
	s = s.Copy()
	for {
		list = append(list, values(s, 1, api.Locals)...)
		if s.Pop() != api.OK {
			return list
		}
	}
}

// values returns the values of the variables from first to last.
func values(s *vars.Store, first, last int) []int {
	list := make([]int, 0, last-first+1)
	for n := first; n <= last; n++ {
		v, _ := s.Get(n)
		list = append(list, v)
	}
	return list
}

// reads fails the test unless the variable has the wanted value.
func reads(t *testing.T, s *vars.Store, n, want int) {
	t.Helper()
	if v, err := s.Get(n); v != want || err != api.OK {
		t.Errorf("the variable %d is %d (%d), want %d", n, v, err, want)
	}
}

// put gives the variable n the value v, as the program or its host does.
func put(t *testing.T, s *vars.Store, n, v int) {
	t.Helper()
	err := s.Set(n, v)
	if n >= api.FirstSystem {
		err = s.Host(n, v)
	}
	if err != api.OK {
		t.Fatalf("the variable %d does not become %d: %d", n, v, err)
	}
}

// spend returns lines that take a number of steps and give no result. With more than ten steps they need the program of idle.
func spend(steps int) string {
	text := ""
	for steps > 10 {
		times := min(api.MaxRepeat, (steps-1)/10)
		text += "M98 P900 L" + strconv.Itoa(times) + "|"
		steps -= 1 + 10*times
	}
	return text + strings.Repeat("|", steps)
}

// idle is a program whose execution takes ten steps.
const idle = "|O900" + "|||||||||"

func num(n int) api.Expr {
	return api.Expr{N: n}
}

func node(op int, kids ...api.Expr) api.Expr {
	return api.Expr{Op: op, Kids: kids}
}

func sameExpr(a, b api.Expr) bool {
	return a.Op == b.Op && a.N == b.N && slices.EqualFunc(a.Kids, b.Kids, sameExpr)
}

func sameWord(a, b api.Word) bool {
	return a.Letter == b.Letter && sameExpr(a.X, b.X)
}

func sameBlock(a, b api.Block) bool {
	return a.Kind == b.Kind && a.Label == b.Label && a.Skip == b.Skip && a.N == b.N && slices.EqualFunc(a.Words, b.Words, sameWord) && sameExpr(a.Left, b.Left) && sameExpr(a.X, b.X)
}

func sameLibrary(a, b api.Library) bool {
	return slices.EqualFunc(a.Blocks, b.Blocks, sameBlock) && slices.Equal(a.Programs, b.Programs) && slices.Equal(a.Mate, b.Mate)
}

func copyExpr(x api.Expr) api.Expr {
	x.Kids = slices.Clone(x.Kids)
	for i, kid := range x.Kids {
		x.Kids[i] = copyExpr(kid)
	}
	return x
}

func copyLibrary(l api.Library) api.Library {
	list := slices.Clone(l.Blocks)
	for i, b := range list {
		words := slices.Clone(b.Words)
		for j, w := range words {
			words[j].X = copyExpr(w.X)
		}
		list[i].Words, list[i].Left, list[i].X = words, copyExpr(b.Left), copyExpr(b.X)
	}
	return api.Library{Blocks: list, Programs: slices.Clone(l.Programs), Mate: slices.Clone(l.Mate)}
}
