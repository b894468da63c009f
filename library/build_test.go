package library_test

import (
	"slices"
	"testing"

	"cnc/api"
	"cnc/library"
	"cnc/syntax"
)

// has fails the test unless the blocks of the text have the programs and mates, and all else that the model says.
func has(t *testing.T, text string, mate []int, programs ...api.Program) {
	t.Helper()
	l := build(t, text)
	if !slices.Equal(l.Programs, programs) || !slices.Equal(l.Mate, mate) {
		t.Errorf("Build(%q): programs %v, mates %v, want %v, %v", text, l.Programs, l.Mate, programs, mate)
	}
	check(t, read(t, text))
}

func program(number, first, end int) api.Program {
	return api.Program{Number: number, First: first, End: end}
}

// P9.1: no blocks, blocks without a BlockProgram, ahead of the first one and behind it.
func TestPrograms(t *testing.T) {
	has(t, "", nil, program(0, 0, 0))
	has(t, "G1", []int{-1}, program(0, 0, 1))
	has(t, "G1||X[#1+2]|/", []int{-1, -1, -1, -1}, program(0, 0, 4))
	has(t, "O5", []int{-1}, program(0, 0, 0), program(5, 0, 1))
	has(t, "O5|G1", []int{-1, -1}, program(0, 0, 0), program(5, 0, 2))
	has(t, "G1|O5", []int{-1, -1}, program(0, 0, 1), program(5, 1, 2))
	has(t, "G1|O5|X1", []int{-1, -1, -1}, program(0, 0, 1), program(5, 1, 3))
	has(t, "|O5", []int{-1, -1}, program(0, 0, 1), program(5, 1, 2))
	has(t, "O5|O4|O3", []int{-1, -1, -1}, program(0, 0, 0), program(5, 0, 1), program(4, 1, 2), program(3, 2, 3))
	has(t, "O3|G1|O2|O99999|X1|Y1|O1|", []int{-1, -1, -1, -1, -1, -1, -1}, program(0, 0, 0), program(3, 0, 2), program(2, 2, 3), program(99999, 3, 6), program(1, 6, 7))
	has(t, "M98P5|M30|/N7O5|G65P6|M99|O6|M99", []int{-1, -1, -1, -1, -1, -1, -1}, program(0, 0, 2), program(5, 2, 5), program(6, 5, 7))
}

// P9.1: a nil slice and an empty one are the same.
func TestNoBlocks(t *testing.T) {
	for _, list := range [][]api.Block{nil, {}, make([]api.Block, 0, 3)} {
		l, n, err := library.Build(list)
		if !sameLibrary(l, api.Library{Programs: []api.Program{{}}}) || n != 0 || err != api.OK {
			t.Errorf("Build of no blocks = %v, %d, %d", l, n, err)
		}
	}
}

// P9.1: the mates of loops one after the other, in one another, and in several programs.
func TestMates(t *testing.T) {
	has(t, "WHILE1|END1", []int{1, 0}, program(0, 0, 2))
	has(t, "G1|WHILE3|X1|END3|G1", []int{-1, 3, -1, 1, -1}, program(0, 0, 5))
	has(t, "WHILE1|END1|WHILE1|END1", []int{1, 0, 3, 2}, program(0, 0, 4))
	has(t, "WHILE2|X1|END2|X1|WHILE2|END2|WHILE1|X1|END1", []int{2, -1, 0, -1, 5, 4, 8, -1, 6}, program(0, 0, 9))
	has(t, "WHILE1|WHILE2|END2|END1", []int{3, 2, 1, 0}, program(0, 0, 4))
	has(t, "WHILE2|WHILE1|END1|END2", []int{3, 2, 1, 0}, program(0, 0, 4))
	has(t, "WHILE1|WHILE2|END2|WHILE2|END2|WHILE3|END3|END1", []int{7, 2, 1, 4, 3, 6, 5, 0}, program(0, 0, 8))
	has(t, "WHILE1|END1|O5|WHILE1|END1|O6|G1|WHILE1|G1|END1", []int{1, 0, -1, 4, 3, -1, -1, 9, -1, 7}, program(0, 0, 2), program(5, 2, 5), program(6, 5, 10))
	has(t, "O1|WHILE3|GOTO4|N4WHILE1|IF[#1]GOTO4|END1|END3|O2|WHILE3|END3", []int{-1, 6, -1, 5, -1, 3, 1, -1, 9, 8}, program(0, 0, 0), program(1, 0, 7), program(2, 7, 10))
}

// P9.1: three loops in one another, in each order of their numbers.
func TestOrdersOfLoops(t *testing.T) {
	for _, n := range []string{"123", "132", "213", "231", "312", "321"} {
		a, b, c := n[:1], n[1:2], n[2:]
		has(t, "WHILE"+a+"|WHILE"+b+"|WHILE"+c+"|END"+c+"|END"+b+"|END"+a, []int{5, 4, 3, 2, 1, 0}, program(0, 0, 6))
		has(t, "O8|WHILE"+a+"|WHILE"+b+"|END"+b+"|WHILE"+c+"|END"+c+"|END"+a+"|WHILE"+c+"|WHILE"+a+"|WHILE"+b+"|G1|END"+b+"|END"+a+"|END"+c,
			[]int{-1, 6, 3, 2, 5, 4, 1, 13, 12, 11, -1, 9, 8, 7}, program(0, 0, 0), program(8, 0, 14))
	}
}

// P9.1: blocks of each kind with labels, and the same labels in several programs.
func TestLabelsOfAllKinds(t *testing.T) {
	has(t, "N1|N2X1|N3#1=2|N4GOTO1|N5IF[1]GOTO2|N6WHILE1|N7END1|N8O9", []int{-1, -1, -1, -1, -1, 6, 5, -1}, program(0, 0, 7), program(9, 7, 8))
	has(t, "N1|N2|N99999|O1|N99999|N2|N1|N1O2|N2", []int{-1, -1, -1, -1, -1, -1, -1, -1, -1}, program(0, 0, 3), program(1, 3, 7), program(2, 7, 9))
	has(t, "N1O5|N1O6|N1O7|N2WHILE1|N3END1|N2O8|N3WHILE1|N1END1", []int{-1, -1, -1, 4, 3, -1, 7, 6}, program(0, 0, 0), program(5, 0, 1), program(6, 1, 2), program(7, 2, 5), program(8, 5, 8))
	// A label, the number of a program and that of a loop have nothing to do with each other.
	has(t, "N1O1|N3WHILE1|N2END1|N5O2|N1O3|N2O5", []int{-1, 2, 1, -1, -1, -1}, program(0, 0, 0), program(1, 0, 3), program(2, 3, 4), program(3, 4, 5), program(5, 5, 6))
}

// full returns lists of api.MaxLines blocks: some without any words, some with labels, with programs, and with loops.
func full() [][]api.Block {
	labelled, programs, loops := plain(api.MaxLines), plain(api.MaxLines), plain(api.MaxLines)
	for i := range api.MaxLines {
		labelled[i].Label = api.MaxLabel - i
		programs[i] = api.Block{Kind: api.BlockProgram, N: i + 1}
		loops[i] = api.Block{Kind: api.BlockWhile + i%2, N: 1 + i/2%api.MaxLoop}
	}
	return [][]api.Block{make([]api.Block, api.MaxLines), plain(api.MaxLines), labelled, programs, loops}
}

// P9.1: api.MaxLines blocks.
func TestMostBlocks(t *testing.T) {
	for _, list := range full() {
		want := api.Library{Blocks: list, Programs: []api.Program{{}}, Mate: make([]int, api.MaxLines)}
		for i, b := range list {
			switch b.Kind {
			case api.BlockProgram:
				want.Programs = append(want.Programs, program(i+1, i, i+1))
				want.Mate[i] = -1
			case api.BlockWhile:
				want.Mate[i] = i + 1
			case api.BlockEnd:
				want.Mate[i] = i - 1
			default:
				want.Mate[i] = -1
			}
		}
		if len(want.Programs) == 1 {
			want.Programs[0].End = api.MaxLines
		}
		l, n, err := library.Build(list)
		if !sameLibrary(l, want) || n != api.MaxLines || err != api.OK {
			t.Errorf("Build(%.100q) = %.300v, %d, %d, want %.300v, %d, %d", syntax.Text(list), l, n, err, want, api.MaxLines, api.OK)
		}
	}
}

// P9.1: one block more than api.MaxLines, and many more.
func TestTooManyBlocks(t *testing.T) {
	for _, list := range full() {
		for _, more := range [][]api.Block{{{}}, {{Kind: api.BlockEnd, N: 1}}, list} {
			refuses(t, slices.Concat(list, more), 0, api.ErrLimit)
			refuses(t, slices.Concat(more, list), 0, api.ErrLimit)
		}
	}
}

// P9.1: a valid block may have a longer text than a line.
func TestLongBlock(t *testing.T) {
	x := num(1)
	for range api.MaxNest - 1 {
		x = node(api.OpAdd, x, x)
	}
	b := api.Block{Kind: api.BlockSet, Left: num(api.Million), X: x}
	if len(syntax.Format(b)) <= api.MaxText {
		t.Fatal("the block is too short for the test")
	}
	l, n, err := library.Build([]api.Block{b})
	if !sameBlocks(l.Blocks, []api.Block{b}) || n != 1 || err != api.OK {
		t.Errorf("Build of a long block = %d blocks, %d, %d", len(l.Blocks), n, err)
	}
}
