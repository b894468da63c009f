package flow_test

import (
	"slices"
	"strings"
	"testing"

	"cnc/api"
	"cnc/flow"
	"cnc/library"
)

// P10.1: the main program is the program 0, or the first of the others if that one is empty.
func TestMainProgram(t *testing.T) {
	runs(t, "X1", "0:X1 1/0/0", "end 2/0/0")
	runs(t, "X1|O10|X2", "0:X1 1/0/0", "end 2/0/0")
	runs(t, "|O10|X2", "end 2/0/0")
	runs(t, "O10|X2", "1:X2 2/0/0", "end 3/0/0")
	runs(t, "O10|X2|O9|X3", "1:X2 2/0/0", "end 3/0/0")
	runs(t, "O9|X3|O10|X2", "1:X3 2/0/0", "end 3/0/0")
	runs(t, "O10", "end 2/0/0")
	runs(t, "O10|O9|X3", "end 2/0/0")
	runs(t, "O99999|M98P1|O1|X1", "3:X1 4/1/0", "end 6/0/0")
}

// P10.1: a new machine has executed nothing, and all its variables are 0.
func TestNew(t *testing.T) {
	for _, text := range []string{"X1", "#1=5|X1", "O5|M98P6|O6|X1", "M99", "X[1/0]", "WHILE[1]DO1|END1"} {
		for _, skip := range []bool{false, true} {
			m := start(t, text, skip)
			if numbers(m) != "0/0/0" {
				t.Errorf("New(%q) has the numbers %s", text, numbers(m))
			}
			if slices.ContainsFunc(contents(m.Vars()), func(v int) bool { return v != 0 }) {
				t.Errorf("New(%q) has variables that are not 0", text)
			}
		}
	}
}

// P10.1: no program has blocks.
func TestNothingToExecute(t *testing.T) {
	l, _, _ := library.Build(nil)
	for _, l := range []api.Library{l, {Programs: []api.Program{{}}}, {Blocks: []api.Block{}, Programs: []api.Program{{}}, Mate: []int{}}} {
		for _, skip := range []bool{false, true} {
			if m, err := flow.New(l, skip); m != nil || err != api.ErrUnknown {
				t.Errorf("New(%v) = %v, %d, want none, %d", l, m, err, api.ErrUnknown)
			}
		}
	}
}

// P10.1: what is done to Vars is done to the machine, and the other way round.
func TestVarsIsStore(t *testing.T) {
	m := start(t, "X#1Y#100Z#5021|#1=7|#100=8|X0|G65P5A9|O5|X#1", false)
	s := m.Vars()
	put(t, s, 1, one)
	put(t, s, 100, 2*one)
	put(t, s, 5021, 3*one)
	gives(t, m, "0:X1Y2Z3 1/0/0", "3:X0 4/0/0")
	reads(t, s, 1, 7*one)
	reads(t, s, 100, 8*one)
	reads(t, s, 5021, 3*one)
	gives(t, m, "6:X9 7/1/1")
	if s.Level() != 1 || m.Vars() != s {
		t.Error("Vars does not stay the same store")
	}
	reads(t, s, 1, 9*one)
	gives(t, m, "end 9/0/0")
	if m.Vars() != s || s.Level() != 0 {
		t.Error("Vars does not stay the same store to the end")
	}
	reads(t, s, 1, 7*one)
	other := start(t, "X#1", false)
	if other.Vars() == s {
		t.Error("two machines have the same store")
	}
	gives(t, other, "0:X0 1/0/0")
}

// P10.1, P10.3: the host's own levels leave none for G65, whose error is that of vars.Push.
func TestLevelsOfHost(t *testing.T) {
	m := start(t, "#2=4|M98P5|G65P5|O5|X#2|M99", false)
	gives(t, m, "4:X4 4/1/0")
	for range api.MaxCalls {
		if err := m.Vars().Push(nil); err != api.OK {
			t.Fatalf("Push = %d", err)
		}
	}
	gives(t, m, "error 10 6/0/8")
	for range api.MaxCalls {
		m.Vars().Pop()
	}
	if got := next(m); got != "error 10 6/0/0" {
		t.Errorf("a later Next gives %q", got)
	}
	reads(t, m.Vars(), 2, 4*one)
}

// R1: a host that takes the levels of the open calls away.
func TestLevelsTakenAway(t *testing.T) {
	m := start(t, "G65P5L2A1|G65P5A2|O5|X#1|M98P6L2|O6|Y#1", false)
	for range 20 {
		m.Next()
		for m.Vars().Pop() == api.OK {
		}
	}
	if s, err := m.Next(); shown(s, err) != "end" {
		t.Errorf("the machine ends with %q", shown(s, err))
	}
}

// ways is a program with repeated calls in one another, whose way depends on the variable 101.
const ways = "N1X#100|#100=#100+1|#1=#1+#100|IF[#101 EQ 1]GOTO2|G65P5L2A#100B#1|X#1Y#2|IF[#100 LT 3]GOTO1|M30|N2M98P7L3|G65P6X5|X#1Y#24|IF[#100 LT 4]GOTO1|" +
	"O5|N1X#1Y#2|#2=#2-1|M98P6L2|Z#2|M99|O6|Y#1|#1=#1+7|IF[#101 EQ 1]GOTO3|G65P7C#3|N3Z#24|O7|#3=#3+1|X#3"

// P10.1: a copy goes on like the original, whatever the original does, and is not changed by it, at all results and in turns.
func TestCopiesGoTheirWays(t *testing.T) {
	total := len(allResults(start(t, ways, false)))
	if total < 30 {
		t.Fatalf("the program has %d results", total)
	}
	for n := range total {
		advanced := func(way int) *guided {
			m := start(t, ways, false)
			for range n {
				m.Next()
			}
			return &guided{m, way}
		}
		a := advanced(0)
		b := &guided{a.m.Copy(), 1}
		if numbers(a.m) != numbers(b.m) || !slices.Equal(contents(a.m.Vars()), contents(b.m.Vars())) || a.m.Vars() == b.m.Vars() {
			t.Fatalf("the copy behind %d results differs", n)
		}
		c, d := advanced(0), advanced(1)
		for i := range 2 * total {
			if got, want := a.next(t), c.next(t); got != want {
				t.Fatalf("the original of a copy behind %d results gives %q, want %q", n, got, want)
			}
			if got, want := b.next(t), d.next(t); got != want {
				t.Fatalf("the copy behind %d results gives %q, want %q", n, got, want)
			}
			// A copy of a copy goes on as well, and what is left of the copy does not matter.
			if i%3 == n%3 {
				old := b.m
				b.m = b.m.Copy()
				put(t, old.Vars(), 100, 77)
				allResults(old)
			}
		}
	}
}

// guided is a machine whose variable 101 is set ahead of each Next.
type guided struct {
	m   *flow.Machine
	way int
}

func (s *guided) next(t *testing.T) string {
	t.Helper()
	put(t, s.m.Vars(), 101, s.way*one)
	return next(s.m)
}

// allResults returns all results up to the last one.
func allResults(m *flow.Machine) []string {
	var list []string
	for {
		list = append(list, next(m))
		if strings.HasPrefix(list[len(list)-1], "e") {
			return list
		}
	}
}

// P10.1: what is done to the store of a machine does not reach a copy, and the other way round, before the first step and behind the last one.
func TestStoresOfCopies(t *testing.T) {
	for _, results := range []int{0, 1, 2, 3} {
		m := start(t, "G65P5A1|X#1|M30|O5|X#1Y#100Z#5021|M99", false)
		for range results {
			m.Next()
		}
		before := contents(m.Vars())
		c := m.Copy()
		for _, n := range []int{1, 100, 5021} {
			put(t, m.Vars(), n, 9)
		}
		m.Vars().Push(nil)
		if !slices.Equal(contents(c.Vars()), before) {
			t.Errorf("the original reaches the store of the copy behind %d results", results)
		}
		before = contents(m.Vars())
		for _, n := range []int{1, 100, 5021} {
			put(t, c.Vars(), n, 11)
		}
		c.Vars().Pop()
		if !slices.Equal(contents(m.Vars()), before) {
			t.Errorf("the copy reaches the store of the original behind %d results", results)
		}
	}
}

// P10.1, P10.5: the copy of a machine that has ended has ended as well.
func TestCopyOfEnd(t *testing.T) {
	for text, want := range map[string]string{"X1": "end 2/0/0", "X1|X[1/0]": "error 4 2/0/0", "X1|N1GOTO1": "error 10 20000/0/0", "X1|M98P1|O1|M99X1": "error 8 4/1/0"} {
		m := start(t, text, false)
		gives(t, m, "0:X1 1/0/0", want)
		c := m.Copy()
		gives(t, c, want)
		gives(t, c.Copy(), want)
		gives(t, m, want)
	}
	m := start(t, "X1M2|X2", false)
	gives(t, m, "0:X1M2 1/0/0")
	gives(t, m.Copy(), "end 1/0/0")
	gives(t, m, "end 1/0/0")
}

// spoilExpr changes all of an expression.
func spoilExpr(x *api.Expr) {
	for i := range x.Kids {
		spoilExpr(&x.Kids[i])
	}
	x.Op++
	x.N++
}

// spoil changes all that can be reached from a library.
func spoil(l api.Library) {
	for i := range l.Blocks {
		b := &l.Blocks[i]
		for j := range b.Words {
			spoilExpr(&b.Words[j].X)
			b.Words[j].Letter++
		}
		spoilExpr(&b.Left)
		spoilExpr(&b.X)
		*b = api.Block{Kind: b.Kind + 1, Label: b.Label + 1, Skip: !b.Skip, Words: b.Words, Left: b.Left, X: b.X, N: b.N + 1}
	}
	for i := range l.Programs {
		l.Programs[i] = api.Program{Number: -1, First: 7, End: 3}
	}
	for i := range l.Mate {
		l.Mate[i] = 1
	}
}

// R2: a machine does not change the library that it was given, and does not need it any more.
func TestLibraryIsNeitherChangedNorKept(t *testing.T) {
	for _, text := range []string{ways, "#1=0|WHILE[#1 LT 3]DO1|X#1Y[#1+1]|#1=#1+1|END1|IF[#1 LT 9]GOTO[3-2]|/N1X1|X2", "O5|GOTO[1+#1]|N1X1|M98P6|O6|X[2*2]"} {
		for _, skip := range []bool{false, true} {
			l := build(t, read(t, text))
			given := copyLibrary(l)
			m, _ := flow.New(l, skip)
			c := m.Copy()
			want := allResults(m)
			if !sameLibrary(l, given) {
				t.Errorf("the library of %q has become %v", text, l)
			}
			m, _ = flow.New(l, skip)
			spoil(l)
			if got := allResults(c); !slices.Equal(got, want) {
				t.Errorf("the copy gives %q, want %q", got, want)
			}
			if got := allResults(m); !slices.Equal(got, want) {
				t.Errorf("the machine gives %q, want %q", got, want)
			}
		}
	}
}

// R2: what becomes of a result reaches neither the machine, nor a copy, nor a later result.
func TestResultsAreNew(t *testing.T) {
	m := start(t, "WHILE[1]DO1|X1Y#1Z3|G65P5A4|END1|O5|X#1Y2", false)
	for range 5 {
		for _, want := range []string{"1:X1Y0Z3", "5:X4Y2"} {
			c := m.Copy()
			s, err := m.Next()
			other, _ := c.Next()
			for i := range s.Values[:cap(s.Values)] {
				s.Values[:cap(s.Values)][i] = api.Value{Letter: 'Q', N: 77}
			}
			s.Values = append(s.Values, api.Value{Letter: 'Q', N: 77})
			if got := shown(other, err); got != want {
				t.Errorf("the result is %q, want %q", got, want)
			}
		}
	}
}

// R1: values that are no library.
func TestForeignLibraries(t *testing.T) {
	bounds := []int{least, -1, 0, 1, 2, 3, 4, 5, 1 << 40, most}
	lists := [][]api.Block{
		nil,
		read(t, "X1|WHILE[1]DO1|GOTO1|N1X1|END1|O5|M98P0|M99"),
		read(t, "O5|G65P5"),
		read(t, "END1|X1"),
		read(t, "WHILE[1]DO1|X1|GOTO1"),
		read(t, "N1|N1|O5|O5"),
		{{Kind: 9}, {Kind: -1}, {Words: []api.Word{{Letter: -5, X: api.Expr{Op: 99}}}}},
		{{Kind: api.BlockSet, Left: node(api.OpAdd)}, {Kind: api.BlockGoto, X: num(-1)}},
	}
	for _, list := range lists {
		libraries := []api.Library{{Blocks: list}, {Blocks: list, Mate: bounds}, {Blocks: list, Mate: []int{1}}}
		for _, first := range bounds {
			for _, end := range bounds {
				programs := []api.Program{{Number: 0, First: first, End: end}, {Number: 5, First: end, End: first}}
				libraries = append(libraries, api.Library{Blocks: list, Programs: programs, Mate: []int{first, end, first}})
			}
		}
		for _, l := range libraries {
			drive(t, l)
		}
	}
}

// drive calls everything on a machine of a value that may be no library.
func drive(t *testing.T, l api.Library) {
	t.Helper()
	before := copyLibrary(l)
	m, err := flow.New(l, false)
	if (m == nil) != (err != api.OK) {
		t.Errorf("New(%v) = %v, %d", l, m, err)
	}
	if m != nil {
		for range 20 {
			m.Next()
			m = m.Copy()
		}
		numbers(m)
	}
	if !sameLibrary(l, before) {
		t.Errorf("New has changed %v to %v", before, l)
	}
}
