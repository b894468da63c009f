package library_test

import (
	"math"
	"slices"
	"strings"
	"testing"

	"cnc/api"
	"cnc/library"
	"cnc/syntax"
)

const (
	most  = math.MaxInt
	least = math.MinInt
)

// extremes are numbers that are no index, label or number of a program in any test.
var extremes = []int{-1, -2, -1000, api.MaxLabel + 1, 1 << 32, -1 << 32, most - 1, most, least, least + 1}

// read returns the blocks of a text whose lines are divided by | signs. WHILE n is short for the beginning of the loop n.
func read(t *testing.T, text string) []api.Block {
	t.Helper()
	text = strings.ReplaceAll(text, "WHILE", "WHILE[#1 LT 3]DO")
	list, _, err := syntax.Parse(strings.ReplaceAll(text, "|", "\n"))
	if err != api.OK {
		t.Fatalf("%q is not a program", text)
	}
	return list
}

// build returns the library of a text, which must have one.
func build(t *testing.T, text string) api.Library {
	t.Helper()
	list := read(t, text)
	l, n, err := library.Build(list)
	if n != len(list) || err != api.OK {
		t.Fatalf("Build(%q) = %d, %d, want %d, %d", text, n, err, len(list), api.OK)
	}
	return l
}

// refuses fails the test unless Build returns the error and the index, and no library.
func refuses(t *testing.T, list []api.Block, at int, want api.Errno) {
	t.Helper()
	given := copyBlocks(list)
	l, n, err := library.Build(list)
	if !sameLibrary(l, api.Library{}) || n != at || err != want {
		t.Errorf("Build(%.300q) = %.300v, %d, %d, want no library, %d, %d", syntax.Text(list), l, n, err, at, want)
	}
	if !sameBlocks(list, given) {
		t.Errorf("Build has changed %.300v to %.300v", given, list)
	}
}

// fails fails the test unless the blocks of the text have the error at the index, alone and with other blocks ahead of them and behind them.
func fails(t *testing.T, text string, at int, want api.Errno) {
	t.Helper()
	failsBlocks(t, read(t, text), at, want)
}

func failsBlocks(t *testing.T, list []api.Block, at int, want api.Errno) {
	t.Helper()
	for _, pads := range [][2]int{{0, 0}, {1, 0}, {0, 1}, {1, 1}, {7, 5}, {api.MaxLines - len(list), 0}, {0, api.MaxLines - len(list)}} {
		refuses(t, slices.Concat(plain(pads[0]), list, plain(pads[1])), pads[0]+at, want)
	}
}

// plain returns a list of blocks of words without labels.
func plain(count int) []api.Block {
	list := make([]api.Block, count)
	for i := range list {
		list[i].Words = []api.Word{{Letter: 'X', X: num(i)}}
	}
	return list
}

func num(n int) api.Expr {
	return api.Expr{N: n}
}

func node(op int, kids ...api.Expr) api.Expr {
	return api.Expr{Op: op, Kids: kids}
}

func sameExpr(a, b api.Expr) bool {
	return a.Op == b.Op && a.N == b.N && slices.EqualFunc(a.Kids, b.Kids, sameExpr)
}

func sameWord(a, b api.Word) bool {
	return a.Letter == b.Letter && sameExpr(a.X, b.X)
}

func sameBlock(a, b api.Block) bool {
	return a.Kind == b.Kind && a.Label == b.Label && a.Skip == b.Skip && a.N == b.N && slices.EqualFunc(a.Words, b.Words, sameWord) && sameExpr(a.Left, b.Left) && sameExpr(a.X, b.X)
}

func sameBlocks(a, b []api.Block) bool {
	return slices.EqualFunc(a, b, sameBlock)
}

func sameLibrary(a, b api.Library) bool {
	return sameBlocks(a.Blocks, b.Blocks) && slices.Equal(a.Programs, b.Programs) && slices.Equal(a.Mate, b.Mate)
}

func copyExpr(x api.Expr) api.Expr {
	x.Kids = slices.Clone(x.Kids)
	for i, kid := range x.Kids {
		x.Kids[i] = copyExpr(kid)
	}
	return x
}

func copyBlocks(list []api.Block) []api.Block {
	list = slices.Clone(list)
	for i, b := range list {
		words := slices.Clone(b.Words)
		for j, w := range words {
			words[j].X = copyExpr(w.X)
		}
		list[i].Words, list[i].Left, list[i].X = words, copyExpr(b.Left), copyExpr(b.X)
	}
	return list
}

func copyLibrary(l api.Library) api.Library {
	return api.Library{Blocks: copyBlocks(l.Blocks), Programs: slices.Clone(l.Programs), Mate: slices.Clone(l.Mate)}
}
