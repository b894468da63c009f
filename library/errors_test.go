package library_test

import (
	"slices"
	"testing"

	"cnc/api"
	"cnc/library"
)

// invalid returns blocks that are not valid, each for another reason.
func invalid() []api.Block {
	deep := num(0)
	for range api.MaxNest {
		deep = node(api.OpNeg, deep)
	}
	one := num(api.Million)
	return []api.Block{
		{Kind: -1}, {Kind: 7}, {Kind: most}, {Kind: least},
		{Label: -1}, {Label: api.MaxLabel + 1}, {Kind: api.BlockEnd, N: 1, Label: -5},
		{Kind: api.BlockProgram}, {Kind: api.BlockProgram, N: -1}, {Kind: api.BlockProgram, N: api.MaxLabel + 1}, {Kind: api.BlockProgram, N: 1, X: one},
		{Kind: api.BlockWhile, X: one}, {Kind: api.BlockWhile, X: one, N: api.MaxLoop + 1}, {Kind: api.BlockWhile, X: one, N: 1, Left: one},
		{Kind: api.BlockEnd}, {Kind: api.BlockEnd, N: api.MaxLoop + 1}, {Kind: api.BlockEnd, N: -1}, {Kind: api.BlockEnd, N: 1, X: one},
		{Words: []api.Word{{Letter: 'N', X: one}}}, {Words: []api.Word{{Letter: 'O', X: one}}}, {Words: []api.Word{{Letter: 'x', X: one}}},
		{Words: []api.Word{{Letter: 'X', X: num(-1)}}}, {Words: []api.Word{{Letter: 'X', X: deep}}}, {Words: make([]api.Word, api.MaxWords+1)},
		{N: 1}, {X: one}, {Kind: api.BlockGoto, X: deep}, {Kind: api.BlockIf, X: one, Left: node(api.OpAdd, one)},
		{Kind: api.BlockSet, Left: api.Expr{Op: 26}, X: one}, {Kind: api.BlockGoto, X: one, Words: []api.Word{{Letter: 'X', X: one}}},
	}
}

// P9.1: ErrArg with the first block that is not valid, wherever it stands, and ahead of all other errors but ErrLimit.
func TestInvalidBlocks(t *testing.T) {
	whole := read(t, "G1|N1O5|N2WHILE1|X1|N3END1|O6|N1WHILE2|END2|G1")
	wrong := read(t, "END1|N1|N1|O5|O5|WHILE1|WHILE1|END2|O6|G1|WHILE3")
	for _, bad := range invalid() {
		for _, list := range [][]api.Block{nil, plain(1), whole, wrong, plain(api.MaxLines - 1)} {
			for _, at := range []int{0, 1, len(list) / 2, len(list) - 1, len(list)} {
				if at >= 0 && at <= len(list) {
					refuses(t, slices.Insert(copyBlocks(list), at, bad), at, api.ErrArg)
				}
			}
		}
	}
}

// P9.1, R1: an expression that contains itself.
func TestEndlessExpression(t *testing.T) {
	endless := node(api.OpNeg, num(0))
	endless.Kids[0] = endless
	for _, bad := range []api.Block{{Kind: api.BlockGoto, X: endless}, {X: endless}, {Words: []api.Word{{Letter: 'X', X: endless}}}} {
		l, at, err := library.Build([]api.Block{{}, bad, {}})
		if !sameLibrary(l, api.Library{}) || at != 1 || err != api.ErrArg {
			t.Errorf("Build with an endless expression = %v, %d, %d, want no library, 1, %d", l, at, err, api.ErrArg)
		}
	}
}

// P9.1: of several invalid blocks the first one, and ErrLimit ahead of ErrArg.
func TestFirstInvalidBlock(t *testing.T) {
	bad := api.Block{Kind: 7}
	for _, at := range []int{0, 1, 5, 1000, api.MaxLines - 1} {
		list := plain(api.MaxLines)
		for i := at; i < len(list); i += 3 {
			list[i] = bad
		}
		refuses(t, list, at, api.ErrArg)
		refuses(t, list[:at+1], at, api.ErrArg)
		refuses(t, append(list, api.Block{}), 0, api.ErrLimit)
		refuses(t, append(list, bad), 0, api.ErrLimit)
	}
	refuses(t, append(plain(api.MaxLines), bad), 0, api.ErrLimit)
	refuses(t, append([]api.Block{{Kind: api.BlockEnd, N: 1}}, plain(api.MaxLines)...), 0, api.ErrLimit)
	refuses(t, []api.Block{{Kind: api.BlockEnd, N: 1}, bad}, 1, api.ErrArg)
	// The number 0 belongs to the blocks ahead of the first BlockProgram, but no BlockProgram can have it.
	refuses(t, []api.Block{{Kind: api.BlockProgram}}, 0, api.ErrArg)
	refuses(t, []api.Block{{}, {Kind: api.BlockProgram, N: 1}, {}, {Kind: api.BlockProgram}}, 3, api.ErrArg)
}

// P9.1: a program whose number a preceding one has.
func TestDuplicatePrograms(t *testing.T) {
	fails(t, "O5|O5", 1, api.ErrDuplicate)
	fails(t, "O5|O5|O5", 1, api.ErrDuplicate)
	fails(t, "O5|O6|O5", 2, api.ErrDuplicate)
	fails(t, "O5|O6|O6", 2, api.ErrDuplicate)
	fails(t, "O99999|G1|N1WHILE1|END1|O1|G1|O2|O99999|G1|O1", 7, api.ErrDuplicate)
	fails(t, "O1|O2|O3|O4|O5|O6|O7|O8|O4", 8, api.ErrDuplicate)
	fails(t, "N1O5|N2O5", 1, api.ErrDuplicate)
	fails(t, "O5|/O5", 1, api.ErrDuplicate)
}

// P9.1: a label that a preceding block of the same program has.
func TestDuplicateLabels(t *testing.T) {
	fails(t, "N1|N1", 1, api.ErrDuplicate)
	fails(t, "N1|N1|N1", 1, api.ErrDuplicate)
	fails(t, "N1|X1|N1", 2, api.ErrDuplicate)
	fails(t, "N1|N2|N3|N99999|N4|N99999|N1", 5, api.ErrDuplicate)
	fails(t, "N1|N2|N1|N2", 2, api.ErrDuplicate)
	fails(t, "N1|O5|N1|N1", 3, api.ErrDuplicate)
	fails(t, "N1|N2|O5|N1|O6|N2|N1|N2", 7, api.ErrDuplicate)
	fails(t, "N1O5|G1|N1G1", 2, api.ErrDuplicate)
	fails(t, "N2O5|N1WHILE1|N1END1", 2, api.ErrDuplicate)
	fails(t, "N1O5|N1WHILE1|END1", 1, api.ErrDuplicate)
	fails(t, "N1O5|WHILE1|N1END1", 2, api.ErrDuplicate)
	fails(t, "N1WHILE1|END1|N1WHILE1|END1", 2, api.ErrDuplicate)
	fails(t, "WHILE1|N1END1|WHILE1|N1END1", 3, api.ErrDuplicate)
	fails(t, "N1#1=2|N1GOTO1", 1, api.ErrDuplicate)
	fails(t, "N1GOTO1|N1IF[1]GOTO1", 1, api.ErrDuplicate)
	fails(t, "N1IF[1]GOTO1|/N1#1=2", 1, api.ErrDuplicate)
}

// P9.1: a loop that is open at a BlockProgram.
func TestLoopOpenAtProgram(t *testing.T) {
	fails(t, "WHILE1|O5", 0, api.ErrNesting)
	fails(t, "WHILE1|G1|O5|END1", 0, api.ErrNesting)
	fails(t, "WHILE1|WHILE2|O5", 1, api.ErrNesting)
	fails(t, "WHILE3|WHILE1|WHILE2|G1|O5|END2|END1|END3", 2, api.ErrNesting)
	fails(t, "WHILE1|WHILE2|END2|O5|END1", 0, api.ErrNesting)
	fails(t, "WHILE2|WHILE1|WHILE3|END3|O5", 1, api.ErrNesting)
	fails(t, "WHILE1|END1|WHILE1|O5", 2, api.ErrNesting)
	fails(t, "WHILE1|WHILE2|END2|WHILE2|END2|WHILE3|END3|G1|O5", 0, api.ErrNesting)
	fails(t, "O5|WHILE1|END1|WHILE2|O6|WHILE1|END1", 3, api.ErrNesting)
	fails(t, "WHILE1|END1|O5|WHILE1|END1|O6|G1|WHILE1|G1|O7", 7, api.ErrNesting)
}

// P9.1: a loop that is open at the end.
func TestLoopOpenAtEnd(t *testing.T) {
	fails(t, "WHILE1", 0, api.ErrNesting)
	fails(t, "WHILE1|WHILE2", 1, api.ErrNesting)
	fails(t, "WHILE3|G1|WHILE1|G1|WHILE2|G1", 4, api.ErrNesting)
	fails(t, "WHILE1|WHILE2|END2", 0, api.ErrNesting)
	fails(t, "WHILE1|WHILE2|WHILE3|END3|G1", 1, api.ErrNesting)
	fails(t, "WHILE1|WHILE2|WHILE3|END3|END2", 0, api.ErrNesting)
	fails(t, "WHILE1|END1|WHILE1", 2, api.ErrNesting)
	fails(t, "O5|G1|WHILE2|O6|END2", 2, api.ErrNesting)
	fails(t, "WHILE1|END1|O5|O6|WHILE2|WHILE1|END1", 4, api.ErrNesting)
}

// P9.1: a BlockWhile whose number is that of an open loop.
func TestLoopOpenTwice(t *testing.T) {
	fails(t, "WHILE1|WHILE1", 1, api.ErrNesting)
	fails(t, "WHILE1|WHILE1|END1|END1", 1, api.ErrNesting)
	fails(t, "WHILE1|WHILE2|WHILE1|END1|END2|END1", 2, api.ErrNesting)
	fails(t, "WHILE1|WHILE2|WHILE2", 2, api.ErrNesting)
	fails(t, "WHILE3|WHILE2|END2|WHILE3", 3, api.ErrNesting)
	fails(t, "WHILE2|WHILE3|WHILE1|G1|WHILE2", 4, api.ErrNesting)
	fails(t, "WHILE2|WHILE3|WHILE1|G1|WHILE3", 4, api.ErrNesting)
	fails(t, "WHILE2|WHILE3|WHILE1|G1|WHILE1", 4, api.ErrNesting)
	fails(t, "WHILE1|END1|O5|WHILE1|WHILE1", 4, api.ErrNesting)
}

// P9.1: a BlockEnd without an open loop, and with the number of another loop than the innermost one.
func TestWrongEnds(t *testing.T) {
	fails(t, "END1", 0, api.ErrNesting)
	fails(t, "END3|WHILE3|END3", 0, api.ErrNesting)
	fails(t, "WHILE1|END1|END1", 2, api.ErrNesting)
	fails(t, "WHILE1|WHILE2|END2|END1|G1|END2", 5, api.ErrNesting)
	fails(t, "WHILE1|END1|O5|END1", 3, api.ErrNesting)
	fails(t, "WHILE1|END2", 1, api.ErrNesting)
	fails(t, "WHILE2|END1|END2", 1, api.ErrNesting)
	fails(t, "WHILE1|WHILE2|END1|END2", 2, api.ErrNesting)
	fails(t, "WHILE2|WHILE1|END2|END1", 2, api.ErrNesting)
	fails(t, "WHILE1|WHILE2|END2|END2", 3, api.ErrNesting)
	fails(t, "WHILE1|WHILE2|WHILE3|END2|END3|END1", 3, api.ErrNesting)
	fails(t, "WHILE1|WHILE2|WHILE3|END3|END1|END2", 4, api.ErrNesting)
	fails(t, "WHILE1|END1|WHILE2|END1", 3, api.ErrNesting)
}

// P9.1: several errors at one block.
func TestErrorsOfOneBlock(t *testing.T) {
	// An open loop and a number of a preceding program.
	fails(t, "O5|WHILE1|O5", 1, api.ErrNesting)
	fails(t, "O5|O6|WHILE1|WHILE2|END2|N1O5", 2, api.ErrNesting)
	// A label of a preceding block and a loop.
	fails(t, "N1WHILE1|N1WHILE1", 1, api.ErrDuplicate)
	fails(t, "N1|END1", 1, api.ErrNesting)
	fails(t, "N1|N1END1", 1, api.ErrDuplicate)
	fails(t, "N1WHILE1|N1END2", 1, api.ErrDuplicate)
	fails(t, "WHILE1|WHILE2|N1|N1END1", 3, api.ErrDuplicate)
	fails(t, "WHILE1|WHILE2|N1|N1WHILE2", 3, api.ErrDuplicate)
	// The label of a BlockProgram belongs to its own program.
	fails(t, "N1|WHILE1|N1O5", 1, api.ErrNesting)
	fails(t, "O5|N1|N1O5", 2, api.ErrDuplicate)
	// An error of the last block and an open loop at the end.
	fails(t, "WHILE1|N1|N1", 2, api.ErrDuplicate)
	fails(t, "WHILE1|WHILE2|END1", 2, api.ErrNesting)
	fails(t, "N1|WHILE1|N1WHILE2", 2, api.ErrDuplicate)
}

// P9.1: errors at several blocks, of which the first block that shows one decides.
func TestErrorsOfSeveralBlocks(t *testing.T) {
	fails(t, "END1|N1|N1", 0, api.ErrNesting)
	fails(t, "N1|N1|END1", 1, api.ErrDuplicate)
	fails(t, "END1|END2|END3", 0, api.ErrNesting)
	fails(t, "O5|O5|END1", 1, api.ErrDuplicate)
	fails(t, "O5|END1|O5", 1, api.ErrNesting)
	fails(t, "O5|N1|N1|O5", 2, api.ErrDuplicate)
	fails(t, "O5|O5|N1|N1", 1, api.ErrDuplicate)
	fails(t, "WHILE1|N1|N1|O5", 2, api.ErrDuplicate)
	fails(t, "WHILE1|O5|N1|N1", 0, api.ErrNesting)
	fails(t, "WHILE1|WHILE1|O5", 1, api.ErrNesting)
	fails(t, "WHILE1|END2|O5", 1, api.ErrNesting)
	fails(t, "WHILE1|WHILE2|O5|END1", 1, api.ErrNesting)
	fails(t, "WHILE1|O5|WHILE2", 0, api.ErrNesting)
	fails(t, "WHILE1|G1|END1|END1|WHILE2", 3, api.ErrNesting)
	fails(t, "WHILE2|O5|O5", 0, api.ErrNesting)
	fails(t, "O5|O5|WHILE2", 1, api.ErrDuplicate)
	fails(t, "N1|N1|WHILE2", 1, api.ErrDuplicate)
	fails(t, "WHILE2|G1|END1", 2, api.ErrNesting)
}
