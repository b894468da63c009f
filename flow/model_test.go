package flow_test

import (
	"slices"
	"strconv"
	"strings"
	"testing"

	"cnc/api"
	"cnc/eval"
	"cnc/flow"
	"cnc/syntax"
	"cnc/vars"
)

// model executes a library by recursion: a call is a call of program. It gives each StepBlock to result when it comes to it.
type model struct {
	l      api.Library
	skip   bool
	store  *vars.Store
	steps  int
	depth  int
	result func(api.Step)
}

// over is the panic that ends the execution, with OK for a StepEnd.
type over struct{ err api.Errno }

// enough is the error of a follower that wants no more results.
const enough api.Errno = -1

func fail(failed bool, err api.Errno) {
	if failed {
		panic(over{err})
	}
}

func check(err api.Errno) {
	fail(err != api.OK, err)
}

// execute executes the main program. It returns the error with which that ends.
func (m *model) execute() (err api.Errno) {
	defer func() {
		switch r := recover().(type) {
		case nil:
		case over:
			err = r.err
		default:
			panic(r)
		}
	}()
	index := 0
	for m.l.Programs[index].First == m.l.Programs[index].End {
		index++
	}
	m.program(index)
	return api.OK
}

func (m *model) program(index int) {
	at := m.l.Programs[index].First
	for at >= 0 {
		fail(m.steps >= 20000, api.ErrLimit)
		m.steps++
		if at == m.l.Programs[index].End {
			return
		}
		at = m.block(index, at)
	}
}

// block executes a block and returns the index of the one behind it, or -1 for a return.
func (m *model) block(index, at int) int {
	b := m.l.Blocks[at]
	switch {
	case b.Skip && m.skip:
		return at + 1
	case b.Kind == api.BlockWords:
		return m.words(at, b.Words)
	case b.Kind == api.BlockSet:
		n, v := m.value(b.Left), m.value(b.X)
		fail(n%one != 0, api.ErrUnknown)
		check(m.store.Set(n/one, v))
	case b.Kind == api.BlockGoto:
		return m.target(index, at, m.value(b.X))
	case b.Kind == api.BlockIf && m.value(b.X) != 0:
		return m.target(index, at, m.value(b.Left))
	case b.Kind == api.BlockWhile && m.value(b.X) == 0:
		return m.l.Mate[at] + 1
	case b.Kind == api.BlockEnd:
		return m.l.Mate[at]
	}
	return at + 1
}

func (m *model) value(x api.Expr) int {
	n, err := eval.Eval(x, m.store)
	check(err)
	return n
}

// target returns the target of a jump from the block at.
func (m *model) target(index, at, label int) int {
	target := -1
	for i, b := range m.l.Blocks {
		if b.Label > 0 && b.Label*one == label && i >= m.l.Programs[index].First && i < m.l.Programs[index].End {
			target = i
		}
	}
	fail(target < 0, api.ErrUnknown)
	for i, b := range m.l.Blocks {
		contains := func(at int) bool { return i < at && at <= m.l.Mate[i] }
		fail(b.Kind == api.BlockWhile && contains(target) && !contains(at), api.ErrNesting)
	}
	return target
}

func (m *model) words(at int, list []api.Word) int {
	var values []api.Value
	for _, w := range list {
		values = append(values, api.Value{Letter: w.Letter, N: m.value(w.X)})
	}
	words := line(values)
	check(words.conflict())
	switch {
	case len(words) == 0:
	case words.has("M98"), words.has("G65"):
		check(words.callError(m.l.Programs, m.depth))
		m.call(words, values)
	case words.has("M99"):
		fail(m.depth == 0, api.OK)
		return -1
	default:
		m.result(api.Step{Kind: api.StepBlock, Block: at, Values: values})
		fail(words.has("M2") || words.has("M30"), api.OK)
	}
	return at + 1
}

func (m *model) call(words words, values []api.Value) {
	args := slices.DeleteFunc(values, func(v api.Value) bool { return strings.Contains("GPL", string(rune(v.Letter))) })
	local := words.has("G65")
	index, times := words.program(m.l.Programs), words.times()
	for i := range times {
		if local {
			check(m.store.Push(args))
		}
		if i == 0 {
			m.depth++
		}
		m.program(index)
		if local {
			m.store.Pop()
		}
	}
	m.depth--
}

// words are the words of a block, as texts.
type words []string

func line(values []api.Value) words {
	var list words
	for _, v := range values {
		list = append(list, texts([]api.Value{v}))
	}
	return list
}

func (w words) has(word string) bool {
	return slices.Contains(w, word)
}

// letters returns the letters of the words.
func (w words) letters() string {
	s := ""
	for _, word := range w {
		s += word[:1]
	}
	return s
}

// number returns the integer of the word with a letter, or without if there is none, or -1 if it is not an integer.
func (w words) number(letter string, without int) int {
	i := strings.Index(w.letters(), letter)
	if i < 0 {
		return without
	}
	n, err := strconv.Atoi(w[i][1:])
	if err != nil {
		return -1
	}
	return n
}

// times returns how often the program of a call is executed, or -1 if that is an error.
func (w words) times() int {
	n := w.number("L", 1)
	if n < 1 || n > 999 {
		return -1
	}
	return n
}

// program returns the index of the program of a call, or -1 if there is none.
func (w words) program(list []api.Program) int {
	number := w.number("P", -1)
	return slices.IndexFunc(list, func(p api.Program) bool { return p.Number == number })
}

// conflict returns the error that P10.3 names for the words of each block, and of M98, G65 and M99.
func (w words) conflict() api.Errno {
	commands := 0
	for _, word := range w {
		if word == "M98" || word == "G65" || word == "M99" {
			commands++
		}
	}
	others := func(allowed string) bool { return strings.Trim(w.letters(), allowed) != "" }
	switch {
	case commands > 1:
		return api.ErrConflict
	case w.has("M98") && (others("MPL") || strings.Count(w.letters(), "M") > 1):
		return api.ErrConflict
	case w.has("G65") && strings.Count(w.letters(), "G") > 1:
		return api.ErrConflict
	case w.has("M99") && len(w) > 1:
		return api.ErrConflict
	}
	return api.OK
}

// callError returns the error of P and L, and of a call that would be too deep.
func (w words) callError(list []api.Program, depth int) api.Errno {
	switch l := w.letters(); {
	case strings.Count(l, "P") > 1, strings.Count(l, "L") > 1:
		return api.ErrDuplicate
	case !strings.Contains(l, "P"):
		return api.ErrMissing
	case w.program(list) < 0:
		return api.ErrUnknown
	case w.times() < 0:
		return api.ErrArg
	case depth == 8:
		return api.ErrLimit
	}
	return api.OK
}

// rules say how a machine is compared with the model.
type rules struct {
	skip    bool
	results int                            // it ends behind this number of results; 0: never
	host    func(s *vars.Store, count int) // is called for both stores, behind each StepBlock, with the number of results
}

// follow compares a machine with the model, result by result, and returns the error with which both end.
func follow(t *testing.T, l api.Library, r rules) api.Errno {
	t.Helper()
	machine, err := flow.New(l, r.skip)
	if err != api.OK {
		t.Fatalf("New(%.300q) = %d", syntax.Text(l.Blocks), err)
	}
	m := &model{l: l, skip: r.skip, store: vars.New()}
	count := 0
	m.result = func(want api.Step) {
		compare(t, machine, m, want, api.OK)
		count++
		fail(count == r.results, enough)
		if r.host != nil {
			r.host(machine.Vars(), count)
			r.host(m.store, count)
		}
	}
	err = m.execute()
	if err == enough {
		return err
	}
	for range 3 {
		if err != api.OK {
			compare(t, machine, m, api.Step{}, err)
		} else {
			compare(t, machine, m, api.Step{Kind: api.StepEnd}, api.OK)
		}
	}
	if !slices.Equal(ownContents(machine.Vars()), ownContents(m.store)) {
		t.Fatalf("%.300q ends with other variables", syntax.Text(l.Blocks))
	}
	return err
}

// compare fails the test unless the next result of the machine is the wanted one, with the numbers of the model and the variables that the tests use most.
func compare(t *testing.T, machine *flow.Machine, m *model, want api.Step, wantErr api.Errno) {
	t.Helper()
	s, err := machine.Next()
	if s.Kind != want.Kind || s.Block != want.Block || !slices.Equal(s.Values, want.Values) || err != wantErr {
		t.Fatalf("%.300q: the result is %v, %d, want %v, %d", syntax.Text(m.l.Blocks), s, err, want, wantErr)
	}
	if machine.Steps() != m.steps || machine.Depth() != m.depth || machine.Vars().Level() != m.store.Level() {
		t.Fatalf("%.300q: the numbers are %s, want %d/%d/%d", syntax.Text(m.l.Blocks), numbers(machine), m.steps, m.depth, m.store.Level())
	}
	for _, n := range []int{1, 2, 3, 24, 100, 101, 102} {
		got, _ := machine.Vars().Get(n)
		if v, _ := m.store.Get(n); v != got {
			t.Fatalf("%.300q: the variable %d is %d, want %d", syntax.Text(m.l.Blocks), n, got, v)
		}
	}
}
