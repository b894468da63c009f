package syntax_test

import (
	"strings"
	"testing"

	"cnc/api"
	"cnc/syntax"
)

// parses fails the test unless the text has the wanted blocks.
func parses(t *testing.T, text string, want ...api.Block) {
	t.Helper()
	l, n, err := syntax.Parse(text)
	if !sameList(l, want) || n != len(want) || err != api.OK {
		t.Errorf("Parse(%.200q) = %.500v, %d, %d, want %.500v, %d, %d", text, l, n, err, want, len(want), api.OK)
	}
}

// parseFails fails the test unless the text has the error in the line.
func parseFails(t *testing.T, text string, line int, want api.Errno) {
	t.Helper()
	l, n, err := syntax.Parse(text)
	if len(l) != 0 || n != line || err != want {
		t.Errorf("Parse(%.200q) = %d blocks, %d, %d, want none, %d, %d", text, len(l), n, err, line, want)
	}
}

func sameList(a, b []api.Block) bool {
	if len(a) != len(b) {
		return false
	}
	for i := range a {
		if !sameBlock(a[i], b[i]) {
			return false
		}
	}
	return true
}

// P6.2: a text with and without a last line feed, empty lines, and the empty text.
func TestLinesOfTexts(t *testing.T) {
	none := api.Block{}
	a := api.Block{Words: []api.Word{word('G', num(one))}}
	b := api.Block{Kind: api.BlockEnd, N: 2, Label: 4}
	parses(t, "")
	parses(t, "\n", none)
	parses(t, "\n\n", none, none)
	parses(t, "\n\n\n\n\n", none, none, none, none, none)
	parses(t, " ", none)
	parses(t, " \n", none)
	parses(t, "\n ", none, none)
	parses(t, " \n \n", none, none)
	parses(t, "G1", a)
	parses(t, "G1\n", a)
	parses(t, "G1\n\n", a, none)
	parses(t, "\nG1", none, a)
	parses(t, "\nG1\n", none, a)
	parses(t, "G1\nN4END2", a, b)
	parses(t, "G1\nN4END2\n", a, b)
	parses(t, "G1\n\nN4END2", a, none, b)
	parses(t, "\n\nG1\n\n\nN4END2\n\n\n", none, none, a, none, none, b, none, none)
	parses(t, "G1\r\nN4END2\r\n", a, b)
	parses(t, "G1\r\nN4END2\r", a, b)
	parses(t, "G1\rG1\n", api.Block{Words: []api.Word{a.Words[0], a.Words[0]}})
	parses(t, "G1 ;x\nG1(x)\n;\n()", a, a, none, none)
	parses(t, ";(\n;)", none, none)
	parses(t, "/\nG1", api.Block{Skip: true}, a)
	parses(t, "N4END2\nN4END2\nN4END2", b, b, b)
	parses(t, "O1\nWHILE[1]DO1\nEND1\n", api.Block{Kind: api.BlockProgram, N: 1}, api.Block{Kind: api.BlockWhile, X: num(one), N: 1}, api.Block{Kind: api.BlockEnd, N: 1})
}

// P6.2: a line feed ends a line within everything.
func TestLineFeedsWithinBlocks(t *testing.T) {
	parseFails(t, "(\n)", 0, api.ErrSyntax)
	parseFails(t, "(x)\n(\n)", 1, api.ErrSyntax)
	parseFails(t, "X\n1", 0, api.ErrSyntax)
	parseFails(t, "G1\nX[1\n]", 1, api.ErrSyntax)
	parseFails(t, "IF[1]GOTO\n1", 0, api.ErrSyntax)
	parseFails(t, "N1\n#1\n=1", 1, api.ErrSyntax)
	parses(t, "N1\nEND1", api.Block{Label: 1}, api.Block{Kind: api.BlockEnd, N: 1})
	parseFails(t, "X1\n2", 1, api.ErrSyntax)
}

// P6.2: the first line with an error, and the error of that line.
func TestErrorsOfTexts(t *testing.T) {
	words := strings.Repeat("X1", 25)
	deep := "#1=" + strings.Repeat("-", 16) + "1"
	for _, bad := range []struct {
		line string
		err  api.Errno
	}{{"]", api.ErrSyntax}, {"n", api.ErrSyntax}, {"X", api.ErrSyntax}, {"N0", api.ErrSyntax}, {"END 4", api.ErrSyntax}, {"X1..2", api.ErrSyntax}, {words, api.ErrLimit}, {deep, api.ErrLimit}, {words + "]", api.ErrSyntax}} {
		for _, before := range []int{0, 1, 2, 5, 1000, 1999} {
			for _, good := range []string{"\n", "G1 X1\n", "( ] )\r\n"} {
				text := strings.Repeat(good, before) + bad.line
				parseFails(t, text, before, bad.err)
				parseFails(t, text+"\n", before, bad.err)
				if before < 1999 {
					parseFails(t, text+"\n"+good[:len(good)-1]+"\n", before, bad.err)
					parseFails(t, text+"\nX", before, bad.err)
					parseFails(t, text+"\n"+words, before, bad.err)
					parseFails(t, text+"\n"+strings.Repeat("n\n", min(5, 1999-before)), before, bad.err)
				}
			}
		}
	}
	parseFails(t, "G1\n\nx\ny", 2, api.ErrSyntax)
	parseFails(t, "x\n"+words, 0, api.ErrSyntax)
	parseFails(t, words+"\nx", 0, api.ErrLimit)
}

// P6.2: api.MaxLines lines and one more.
func TestNumberOfLines(t *testing.T) {
	g := api.Block{Words: []api.Word{word('G', num(one))}}
	for _, count := range []int{api.MaxLines - 1, api.MaxLines} {
		blank := make([]api.Block, count)
		full := make([]api.Block, count)
		for i := range full {
			full[i] = g
		}
		parses(t, strings.Repeat("\n", count), blank...)
		parses(t, strings.Repeat("\n", count-1)+" ", blank...)
		parses(t, strings.Repeat("G1\n", count), full...)
		parses(t, strings.Repeat("G1\n", count-1)+"G1", full...)
	}
	for _, count := range []int{api.MaxLines + 1, api.MaxLines + 2, 10000} {
		for _, line := range []string{"", "G1", "]", "n", "(", "X"} {
			parseFails(t, strings.Repeat(line+"\n", count), 0, api.ErrLimit)
			parseFails(t, strings.Repeat(line+"\n", count-1)+"G1", 0, api.ErrLimit)
			parseFails(t, "G1\nn\n"+strings.Repeat(line+"\n", count-2), 0, api.ErrLimit)
			parseFails(t, strings.Repeat(line+"\n", count-1)+"n", 0, api.ErrLimit)
		}
	}
}

// P6.2: a text of api.MaxText bytes and one more.
func TestLengthOfTexts(t *testing.T) {
	fill := func(length int) string { return strings.Repeat("x", length) }
	none := api.Block{}
	parses(t, ";"+fill(api.MaxText-1), none)
	parses(t, ";"+fill(api.MaxText-2)+"\n", none)
	parses(t, ";\n;"+fill(api.MaxText-4)+"\n", none, none)
	parses(t, "\n;"+fill(api.MaxText-2), none, none)
	parses(t, strings.Repeat(" ", api.MaxText), none)
	parses(t, ";"+strings.Repeat("é", api.MaxText/2-1)+"\n", none)
	parseFails(t, ";"+strings.Repeat("é", api.MaxText/2), 0, api.ErrLimit)
	for _, text := range []string{";" + fill(api.MaxText), ";" + fill(api.MaxText-1) + "\n", ";\n;" + fill(api.MaxText-3) + "\n", "\n;" + fill(api.MaxText-1), fill(api.MaxText + 1), "G1\nx\n" + fill(api.MaxText), strings.Repeat(" ", api.MaxText+1), strings.Repeat("\n", api.MaxText+1), "\n\n" + strings.Repeat(";"+fill(998)+"\n", 66)} {
		parseFails(t, text, 0, api.ErrLimit)
	}
	parseFails(t, "\n"+fill(api.MaxText-1), 1, api.ErrSyntax)
	parseFails(t, ";"+fill(api.MaxText-4)+"\n\nx", 2, api.ErrSyntax)
}

// P6.2: the blocks are those of Line, in their order.
func TestBlocksOfLines(t *testing.T) {
	r := newRandom(3)
	for range 300 {
		var want []api.Block
		var lines []string
		for range r.IntN(20) {
			line := formatted(r.block(4))
			if r.IntN(20) == 0 {
				line += symbols[r.IntN(len(symbols))]
			}
			lines = append(lines, line)
			b, _, _ := syntax.Line(line)
			want = append(want, b)
		}
		text := strings.Join(lines, "\n") + "\n"
		failed := false
		for i, line := range lines {
			if _, _, err := syntax.Line(line); err != api.OK {
				parseFails(t, text, i, err)
				failed = true
				break
			}
		}
		if len(lines) > 0 && !failed {
			parses(t, text, want...)
		}
	}
}

// R2: no two slices of a result share memory, and a result has nothing in common with other results.
func TestResultsShareNoMemory(t *testing.T) {
	text := "N1 G1 X[#1+#2*-3] Y-#[1]\n#[#1] = ATAN[#1]/[#1 OR 2] XOR 1\nIF [1 AND 2 AND 3] GOTO -[1]\nGOTO ##1\nWHILE [[[1]+[2]]] DO 1\nX1 X1 X1 X1 X1\n"
	first, _, _ := syntax.Parse(text)
	second, _, _ := syntax.Parse(text)
	line, _, _ := syntax.Line("X[1+2-3*4] Y[1+2] Z##1")
	seen := map[*api.Expr]bool{}
	for _, l := range [][]api.Block{first, second, {line}} {
		for _, b := range l {
			own(t, seen, &b.Left)
			own(t, seen, &b.X)
			words := b.Words[:cap(b.Words)]
			for i := range words {
				own(t, seen, &words[i].X)
			}
		}
	}
}

// own fails the test if x, one of its Kids or the rest of the memory of their slices was seen before.
func own(t *testing.T, seen map[*api.Expr]bool, x *api.Expr) {
	t.Helper()
	if seen[x] {
		t.Errorf("%+v stands in two slices", *x)
	}
	seen[x] = true
	kids := x.Kids[:cap(x.Kids)]
	for i := range kids {
		own(t, seen, &kids[i])
	}
}
