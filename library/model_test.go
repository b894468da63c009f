package library_test

import (
	"math/rand/v2"
	"slices"
	"testing"

	"cnc/api"
	"cnc/library"
	"cnc/syntax"
)

// openAt returns the beginnings of the loops that are open at the block at: no end with their number stands between. The blocks ahead of at have no errors.
func openAt(list []api.Block, at int) []int {
	var open []int
	for i, b := range list[:at] {
		ends := func(c api.Block) bool { return c.Kind == api.BlockEnd && c.N == b.N }
		if b.Kind == api.BlockWhile && !slices.ContainsFunc(list[i:at], ends) {
			open = append(open, i)
		}
	}
	return open
}

// innermost returns the index and the number of the innermost loop that is open at the block at, or -1 and 0.
func innermost(list []api.Block, at int) (int, int) {
	open := openAt(list, at)
	if len(open) == 0 {
		return -1, 0
	}
	i := open[len(open)-1]
	return i, list[i].N
}

// programAt returns the index of the program of the block at: the number of the BlockPrograms up to it.
func programAt(list []api.Block, at int) int {
	count := 0
	for _, b := range list[:at+1] {
		if b.Kind == api.BlockProgram {
			count++
		}
	}
	return count
}

// labelled returns the indices of the blocks of a program that have a label.
func labelled(list []api.Block, program, label int) []int {
	var found []int
	for i, b := range list {
		if b.Label == label && label > 0 && programAt(list, i) == program {
			found = append(found, i)
		}
	}
	return found
}

// errorAt is the error that P9.1 names for the block at if those ahead of it have none, and its index.
func errorAt(list []api.Block, at int) (int, api.Errno) {
	b := list[at]
	first, number := innermost(list, at)
	same := func(c api.Block) bool { return c.Kind == b.Kind && c.N == b.N }
	isOpen := func(i int) bool { return list[i].N == b.N }
	switch {
	case b.Kind == api.BlockProgram && first >= 0:
		return first, api.ErrNesting
	case b.Kind == api.BlockProgram && slices.ContainsFunc(list[:at], same):
		return at, api.ErrDuplicate
	case b.Label > 0 && labelled(list, programAt(list, at), b.Label)[0] < at:
		return at, api.ErrDuplicate
	case b.Kind == api.BlockWhile && slices.ContainsFunc(openAt(list, at), isOpen):
		return at, api.ErrNesting
	case b.Kind == api.BlockEnd && b.N != number:
		return at, api.ErrNesting
	}
	return 0, api.OK
}

// errorOf is the error of valid blocks, and its index.
func errorOf(list []api.Block) (int, api.Errno) {
	for at := range list {
		if i, err := errorAt(list, at); err != api.OK {
			return i, err
		}
	}
	if first, _ := innermost(list, len(list)); first >= 0 {
		return first, api.ErrNesting
	}
	return len(list), api.OK
}

// mateOf is the mate of a block of a library.
func mateOf(list []api.Block, at int) int {
	switch list[at].Kind {
	case api.BlockWhile:
		ends := func(c api.Block) bool { return c.Kind == api.BlockEnd && c.N == list[at].N }
		return at + slices.IndexFunc(list[at:], ends)
	case api.BlockEnd:
		first, _ := innermost(list, at)
		return first
	}
	return -1
}

// modelOf returns the library of blocks without errors.
func modelOf(list []api.Block) api.Library {
	l := api.Library{Blocks: list, Programs: []api.Program{{}}}
	for i, b := range list {
		if b.Kind == api.BlockProgram {
			l.Programs = append(l.Programs, api.Program{Number: b.N, First: i})
		}
		l.Programs[len(l.Programs)-1].End = i + 1
		l.Mate = append(l.Mate, mateOf(list, i))
	}
	if len(list) > 0 && list[0].Kind == api.BlockProgram {
		l.Programs[0].End = 0
	}
	return l
}

// check compares all functions with the model for valid blocks.
func check(t *testing.T, list []api.Block) {
	t.Helper()
	at, want := errorOf(list)
	if want != api.OK {
		refuses(t, list, at, want)
		return
	}
	given := copyBlocks(list)
	l, n, err := library.Build(list)
	if !sameLibrary(l, modelOf(list)) || n != at || err != want {
		t.Fatalf("Build(%.300q) = %.300v, %d, %d, want %.300v, %d, %d", syntax.Text(list), l, n, err, modelOf(list), at, want)
	}
	if !sameBlocks(list, given) {
		t.Fatalf("Build has changed %.300v to %.300v", given, list)
	}
	before := copyLibrary(l)
	checkFind(t, l)
	checkLabel(t, l)
	checkPlaces(t, l)
	if !sameLibrary(l, before) {
		t.Fatalf("the library %.300v has become %.300v", before, l)
	}
}

// checkFind compares Find with the programs of l, for their numbers and others.
func checkFind(t *testing.T, l api.Library) {
	t.Helper()
	numbers := append([]int{0, 1, 2, 3, api.MaxLabel}, extremes...)
	for _, p := range l.Programs {
		numbers = append(numbers, p.Number, p.Number+1, p.First, p.End)
	}
	for _, n := range numbers {
		want := slices.IndexFunc(l.Programs, func(p api.Program) bool { return p.Number == n })
		if i, ok := library.Find(l, n); i != max(want, 0) || ok != (want >= 0) {
			t.Errorf("Find(%.300q, %d) = %d, %v, want %d", syntax.Text(l.Blocks), n, i, ok, want)
		}
	}
}

// checkLabel compares Label with the blocks of l, for each program and others, and for their labels and others.
func checkLabel(t *testing.T, l api.Library) {
	t.Helper()
	labels := append([]int{0, 1, 2, 3, api.MaxLabel}, extremes...)
	for _, b := range l.Blocks {
		labels = append(labels, b.Label, b.Label+1)
	}
	slices.Sort(labels)
	labels = slices.Compact(labels)
	programs := append([]int{len(l.Programs), len(l.Programs) + 1, len(l.Blocks)}, extremes...)
	for i := range l.Programs {
		programs = append(programs, i)
	}
	for _, program := range programs {
		for _, label := range labels {
			want := append(labelled(l.Blocks, program, label), 0)
			at, ok := library.Label(l, program, label)
			if at != want[0] || ok != (len(want) == 2) {
				t.Errorf("Label(%.300q, %d, %d) = %d, %v, want %v", syntax.Text(l.Blocks), program, label, at, ok, want)
			}
		}
	}
}

// checkPlaces compares Inside and Of with the blocks of l, for each block and other indices.
func checkPlaces(t *testing.T, l api.Library) {
	t.Helper()
	for at := range l.Blocks {
		place(t, l, at, programAt(l.Blocks, at), openAt(l.Blocks, at)...)
	}
	for _, at := range append([]int{len(l.Blocks), len(l.Blocks) + 1, 2 * len(l.Blocks)}, extremes...) {
		if at >= len(l.Blocks) || at < 0 {
			place(t, l, at, -1)
		}
	}
}

// place fails the test unless the block at stands in the program and in the loops.
func place(t *testing.T, l api.Library, at, program int, loops ...int) {
	t.Helper()
	if got := library.Of(l, at); got != program {
		t.Errorf("Of(%.300q, %d) = %d, want %d", syntax.Text(l.Blocks), at, got, program)
	}
	if got := library.Inside(l, at); !slices.Equal(got, loops) {
		t.Errorf("Inside(%.300q, %d) = %v, want %v", syntax.Text(l.Blocks), at, got, loops)
	}
}

// checkAll compares all functions with the model for all lists of up to most blocks out of the kinds.
func checkAll(t *testing.T, kinds []api.Block, most int) {
	t.Helper()
	count := 1
	for length := range most + 1 {
		for code := range count {
			list := make([]api.Block, length)
			for i, rest := 0, code; i < length; i, rest = i+1, rest/len(kinds) {
				list[i] = kinds[rest%len(kinds)]
			}
			check(t, list)
			if t.Failed() {
				return
			}
		}
		count *= len(kinds)
	}
}

// P9.1 to P9.3: all rows of up to six beginnings and ends of loops, which contain all ways in which three loops can be closed.
func TestAllRowsOfLoops(t *testing.T) {
	checkAll(t, read(t, "WHILE1|WHILE2|WHILE3|END1|END2|END3"), 6)
}

// P9.1 to P9.3: all short rows of blocks with labels, programs and loops.
func TestAllShortRows(t *testing.T) {
	checkAll(t, read(t, "G1|N1|N2|O1|O2|N1O1|WHILE1|WHILE2|END1|END2|N1WHILE1|N1END1"), 4)
	checkAll(t, read(t, "N1|O1|O2|WHILE1|WHILE2|END1|END2"), 5)
	checkAll(t, read(t, "N1|N1O1|O2|N1WHILE1|END1"), 6)
	checkAll(t, read(t, "N1|N2O2|O1|WHILE1|END1"), 6)
}

// random makes rows of blocks, the same ones in every run.
type random struct{ *rand.Rand }

// block returns a block of the kind with the number n, often with a label up to 30.
func (r random) block(kind, n int) api.Block {
	b := api.Block{Kind: kind, N: n, Skip: r.IntN(4) == 0}
	if r.IntN(4) == 0 {
		b.Label = 1 + r.IntN(30)
	}
	switch kind {
	case api.BlockWords:
		for i := range r.IntN(4) {
			b.Words = append(b.Words, api.Word{Letter: 'A' + i, X: node(api.OpAdd, num(r.IntN(9)), node(api.OpVar, num(r.IntN(9))))})
		}
	case api.BlockSet, api.BlockIf:
		b.Left, b.X = num(r.IntN(9)), node(api.OpAbs, num(r.IntN(9)))
	case api.BlockGoto, api.BlockWhile:
		b.X = num(r.IntN(9))
	}
	return b
}

// body returns blocks with complete loops that have none of the numbers in taken.
func (r random) body(taken ...int) []api.Block {
	var list []api.Block
	for range r.IntN(6) {
		n := 1 + r.IntN(api.MaxLoop)
		if r.IntN(3) > 0 || slices.Contains(taken, n) {
			list = append(list, r.block(r.IntN(api.BlockWhile), 0))
			continue
		}
		list = append(list, r.block(api.BlockWhile, n))
		list = append(list, r.body(append(taken, n)...)...)
		list = append(list, r.block(api.BlockEnd, n))
	}
	return list
}

// row returns the blocks of several programs, which have no errors but for labels.
func (r random) row() []api.Block {
	list := r.body()
	for _, n := range r.Perm(9)[:r.IntN(6)] {
		list = append(list, r.block(api.BlockProgram, n+1))
		list = append(list, r.body()...)
	}
	return list
}

// tidy takes the labels of the blocks away that a preceding block of the same program has.
func tidy(list []api.Block) {
	for i, b := range list {
		if b.Label > 0 && labelled(list, programAt(list, i), b.Label)[0] < i {
			list[i].Label = 0
		}
	}
}

// P9.1 to P9.3: long rows of blocks, without errors and with some.
func TestLongRows(t *testing.T) {
	r := random{rand.New(rand.NewPCG(9, 9))}
	longest := 0
	for round := range 3000 {
		list := r.row()
		if round%3 > 0 {
			tidy(list)
		}
		if round%3 == 2 && len(list) > 0 {
			i, j := r.IntN(len(list)), r.IntN(len(list))
			list[i], list[j] = list[j], list[i]
		}
		if _, err := errorOf(list); err == api.OK {
			longest = max(longest, len(list))
		}
		check(t, list)
	}
	if longest < 50 {
		t.Errorf("the longest library has %d blocks", longest)
	}
}
