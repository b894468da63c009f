package library_test

import (
	"slices"
	"testing"

	"cnc/api"
	"cnc/library"
)

// varied returns a row of blocks of all kinds, with expressions in one another.
func varied(t *testing.T) []api.Block {
	t.Helper()
	return read(t, "G1X[#1+2*[3-#2]]Y-#[4+1]|/N1#[#3]=ATAN[#1]/[SIN[2]]|IF[#1 EQ[2-#2]]GOTO[#5+1]|GOTO[-#2]|N2O5|N3WHILE1|X1Y2Z[#9]|N4END1")
}

func spoilExpr(x *api.Expr) {
	for i := range x.Kids {
		spoilExpr(&x.Kids[i])
	}
	x.Op++
	x.N++
}

// spoil changes everything that can be reached from the blocks.
func spoil(list []api.Block) {
	for i := range list {
		b := &list[i]
		for j := range b.Words {
			b.Words[j].Letter++
			spoilExpr(&b.Words[j].X)
		}
		spoilExpr(&b.Left)
		spoilExpr(&b.X)
		b.Kind++
		b.Label++
		b.N++
		b.Skip = !b.Skip
	}
}

// overwrite changes the memory behind the end of a slice that an append to it would use.
func overwrite[T any](list []T, x T) {
	for i := range list[len(list):cap(list)] {
		list[len(list):cap(list)][i] = x
	}
}

func overwriteKids(x api.Expr) {
	overwrite(x.Kids, num(77))
	for _, kid := range x.Kids {
		overwriteKids(kid)
	}
}

// overwriteAll changes the memory behind the ends of all slices of a library.
func overwriteAll(l api.Library) {
	overwrite(l.Programs, api.Program{Number: 77})
	overwrite(l.Mate, 77)
	overwrite(l.Blocks, api.Block{Label: 77})
	for _, b := range l.Blocks {
		overwrite(b.Words, api.Word{Letter: 77})
		for _, w := range b.Words {
			overwriteKids(w.X)
		}
		overwriteKids(b.Left)
		overwriteKids(b.X)
	}
}

// P9.1, R2: what becomes of the blocks that were given does not reach the library, and the other way round.
func TestLibraryIsCopy(t *testing.T) {
	list := varied(t)
	given := copyBlocks(list)
	l, _, _ := library.Build(list)
	other, _, _ := library.Build(list)
	if !sameBlocks(l.Blocks, given) || !sameBlocks(list, given) {
		t.Fatalf("Build has changed the blocks: %v, %v, want %v", l.Blocks, list, given)
	}
	before := copyLibrary(l)
	spoil(list)
	if sameBlocks(list, given) {
		t.Error("the test has not changed the blocks")
	}
	if !sameLibrary(l, before) {
		t.Errorf("the blocks that were given reach the library: %v, want %v", l, before)
	}
	spoiled := copyBlocks(list)
	spoil(l.Blocks)
	clear(l.Programs)
	clear(l.Mate)
	if !sameBlocks(list, spoiled) {
		t.Errorf("the library reaches the blocks that were given: %v, want %v", list, spoiled)
	}
	if !sameLibrary(other, before) {
		t.Errorf("a library reaches another one: %v, want %v", other, before)
	}
}

// P9.1, R2: each part of the blocks that were given is copied, one by one.
func TestEachPartIsCopied(t *testing.T) {
	changes := []func(list []api.Block){
		func(list []api.Block) { list[0].Words[0].Letter = 'Z' },
		func(list []api.Block) { list[0].Words[1] = api.Word{} },
		func(list []api.Block) { list[0].Words[1].X.Kids[0] = num(5) },
		func(list []api.Block) { list[0].Words[1].X.Kids[1].Kids[1].Kids[1].Kids[0].N = 5 },
		func(list []api.Block) { list[1].Left.Kids[0].N = 5 },
		func(list []api.Block) { list[1].X.Kids[1].Kids[0].N = 5 },
		func(list []api.Block) { list[2].Left.Kids[0].Kids[0].N = 5 },
		func(list []api.Block) { list[2].X.Kids[1].Kids[1].Kids[0].N = 5 },
		func(list []api.Block) { list[3].X.Kids[0].Op = api.OpNum },
		func(list []api.Block) { list[5].X.Kids[0].Kids[0].N = 5 },
		func(list []api.Block) { list[6] = api.Block{} },
		func(list []api.Block) { list[7].Label = 9 },
	}
	for i, change := range changes {
		list := varied(t)
		given := copyBlocks(list)
		l, _, _ := library.Build(list)
		change(list)
		if sameBlocks(list, given) {
			t.Errorf("the change %d changes nothing", i)
		}
		if !sameBlocks(l.Blocks, given) {
			t.Errorf("the change %d reaches the library", i)
		}
	}
}

// R2: no two slices of a library share memory, even if those that were given do.
func TestSharedBlocks(t *testing.T) {
	leaf := node(api.OpVar, num(1))
	x := node(api.OpAdd, leaf, node(api.OpMul, leaf, leaf))
	words := []api.Word{{Letter: 'X', X: x}, {Letter: 'Y', X: x}}
	list := []api.Block{{Words: words}, {Words: words}, {Words: words[:1]}, {Kind: api.BlockSet, Left: x, X: x}, {Kind: api.BlockGoto, X: x}}
	for i := range list {
		l, _, _ := library.Build(list)
		before := copyBlocks(l.Blocks)
		spoil(l.Blocks[i : i+1])
		before[i] = l.Blocks[i]
		if !sameBlocks(l.Blocks, before) {
			t.Errorf("the block %d of a library shares memory with another one", i)
		}
	}
	l, _, _ := library.Build(list)
	spoilExpr(&l.Blocks[0].Words[0].X.Kids[1].Kids[0])
	spoilExpr(&l.Blocks[3].Left)
	want := copyExpr(x)
	spoilExpr(&want.Kids[1].Kids[0])
	if !sameExpr(l.Blocks[0].Words[0].X, want) || !sameExpr(l.Blocks[0].Words[1].X, x) || !sameExpr(l.Blocks[3].X, x) {
		t.Errorf("the expressions of a block share memory: %v", l.Blocks)
	}
}

// R2: an append to a slice of a library changes nothing else.
func TestRoomBehindSlices(t *testing.T) {
	list := varied(t)
	room := make([]api.Word, 0, 3)
	kids := make([]api.Expr, 0, 3)
	list = append(list, api.Block{Words: room}, api.Block{Words: []api.Word{{Letter: 'X', X: api.Expr{Kids: kids}}}}, api.Block{Kind: api.BlockEnd, N: 1})
	list = slices.Insert(list, 0, api.Block{Kind: api.BlockWhile, N: 1, X: api.Expr{Kids: kids}, Left: api.Expr{Kids: kids}}, api.Block{Kind: api.BlockEnd, N: 1})
	list = list[: len(list)-1 : len(list)]
	l, _, err := library.Build(list)
	if err != api.OK {
		t.Fatalf("Build = %d", err)
	}
	given, before := copyBlocks(list), copyLibrary(l)
	overwriteAll(l)
	for i := range l.Blocks {
		b := &l.Blocks[i]
		b.Words = append(b.Words, api.Word{Letter: 77})
		b.X.Kids = append(b.X.Kids, num(77))
		b.Left.Kids = append(b.Left.Kids, num(77))
	}
	if !sameBlocks(list, given) || room[:3][0].Letter != 0 || kids[:3][0].N != 0 || list[:cap(list)][len(list)].Label != 0 {
		t.Error("an append to the library has changed the blocks that were given")
	}
	for i := range l.Blocks {
		b := &l.Blocks[i]
		b.Words, b.X.Kids, b.Left.Kids = b.Words[:len(b.Words)-1], b.X.Kids[:len(b.X.Kids)-1], b.Left.Kids[:len(b.Left.Kids)-1]
	}
	if !sameLibrary(l, before) {
		t.Errorf("an append to the library has changed it to %v, want %v", l, before)
	}
}

// R2: the results of Inside share no memory with each other and with the library.
func TestInsideIsCopy(t *testing.T) {
	l := build(t, "WHILE1|WHILE2|WHILE3|G1|END3|END2|END1")
	before := copyLibrary(l)
	first, second := library.Inside(l, 3), library.Inside(l, 3)
	overwrite(first, 77)
	for i := range first {
		first[i] = 77
	}
	if !slices.Equal(second, []int{0, 1, 2}) || !slices.Equal(library.Inside(l, 3), second) || !sameLibrary(l, before) {
		t.Errorf("Inside = %v after another result was changed, the library %v", second, l)
	}
}
