package syntax_test

import (
	"strings"
	"testing"

	"cnc/api"
	"cnc/syntax"
)

// deepBlocks returns blocks of all kinds with the expression x at each place of an expression, one place each.
func deepBlocks(x api.Expr) []api.Block {
	a := num(one)
	return []api.Block{
		{Words: []api.Word{word('X', x)}},
		{Words: []api.Word{word('X', x), word('Y', a)}},
		{Words: []api.Word{word('X', a), word('Y', a), word('Z', x)}},
		{Kind: api.BlockSet, Left: x, X: a},
		{Kind: api.BlockSet, Left: a, X: x},
		{Kind: api.BlockGoto, X: x},
		{Kind: api.BlockIf, Left: x, X: a},
		{Kind: api.BlockIf, Left: a, X: x},
		{Kind: api.BlockWhile, X: x, N: 1},
		{Kind: api.BlockWhile, X: x, N: 3, Label: 7, Skip: true},
	}
}

// P6.1: depths of api.MaxNest and one more, for each operator at each place of an expression. P6.3 and P6.4 have the same limit.
func TestDepthOfExpressions(t *testing.T) {
	for op := range operands {
		if operands[op] == 0 {
			continue
		}
		for side := range operands[op] {
			for _, deep := range []int{1, 2, 15, 16} {
				x := chain(op, side, deep)
				for _, b := range deepBlocks(x) {
					gives(t, formatted(b), b)
					checkFormat(t, b)
				}
				checkExpr(t, x, deep)
			}
			for _, deep := range []int{17, 18, 40} {
				x := chain(op, side, deep)
				for _, b := range deepBlocks(x) {
					fails(t, formatted(b), 0, api.ErrLimit)
					refused(t, b)
				}
				wrong(t, x, 17)
			}
		}
	}
}

// P6.1: what leaves no trace adds nothing to the depth.
func TestDepthOfTexts(t *testing.T) {
	for _, n := range []int{15, 16} {
		want := api.OK
		if n == 16 {
			want = api.ErrLimit
		}
		for _, text := range []string{
			strings.Repeat("-", n) + "1", strings.Repeat("-+", n) + "1", strings.Repeat("-[", n) + "1" + strings.Repeat("]", n), "1" + strings.Repeat("+1", n), "1" + strings.Repeat("*1", n), strings.Repeat("1 OR [", n) + "1" + strings.Repeat("]", n), strings.Repeat("#", n) + "1", strings.Repeat("#[", n) + "1" + strings.Repeat("]", n),
			strings.Repeat("ABS[", n) + "1" + strings.Repeat("]", n), strings.Repeat("ATAN[", n) + "1" + strings.Repeat("]/[2]", n), strings.Repeat("ATAN[1]/[", n) + "1" + strings.Repeat("]", n), "[[" + strings.Repeat("-", n) + "[[+[1]]]]]", "1+" + strings.Repeat("-", n-1) + "1",
		} {
			for _, line := range []string{"#1=" + text, "X[" + text + "]", "G1 Y1 Z[" + text + "]", "#[" + text + "]=1", "GOTO[" + text + "]", "IF[" + text + "]GOTO1", "IF[1]GOTO[" + text + "]", "WHILE[" + text + "]DO1"} {
				checkLine(t, line)
				if _, _, err := syntax.Line(line); err != want {
					t.Errorf("Line(%q): error %d, want %d", line, err, want)
				}
			}
		}
	}
	// The sign # before a cell of a BlockSet is no part of an expression; that of a value is.
	gives(t, strings.Repeat("#", 16)+"1=1", api.Block{Kind: api.BlockSet, Left: chain1(16), X: num(one)})
	fails(t, strings.Repeat("#", 17)+"1=1", 0, api.ErrLimit)
	fails(t, "X"+strings.Repeat("#", 16)+"1", 0, api.ErrLimit)
	fails(t, "X-"+strings.Repeat("#", 15)+"1", 0, api.ErrLimit)
	checkLine(t, "X-"+strings.Repeat("#", 14)+"1")
}

// chain1 returns #..#1 of the given depth.
func chain1(deep int) api.Expr {
	x := num(one)
	for range deep - 1 {
		x = branch(api.OpVar, x)
	}
	return x
}

// P6.1: api.MaxWords words and one more.
func TestNumberOfWords(t *testing.T) {
	for _, text := range []string{"X1", "G-#2 ", "Z[1+2]", "A0(x)"} {
		for _, prefix := range []string{"", "/", "N5 ", "/N5 "} {
			for _, count := range []int{1, 23, 24} {
				line := prefix + strings.Repeat(text, count)
				checkLine(t, line)
				if b, _, err := syntax.Line(line); len(b.Words) != count || err != api.OK {
					t.Errorf("Line(%q) has %d words and the error %d", line, len(b.Words), err)
				}
			}
			for _, count := range []int{25, 26, 50, 5000} {
				fails(t, prefix+strings.Repeat(text, count), 0, api.ErrLimit)
			}
		}
	}
}

// P6.1: an error of the grammar precedes the limits of words and depths, and a line that is too long precedes all.
func TestErrorsAndLimits(t *testing.T) {
	words := strings.Repeat("X1", 25)
	deep := "Y" + strings.Repeat("#", 16) + "1"
	fails(t, words, 0, api.ErrLimit)
	fails(t, deep, 0, api.ErrLimit)
	fails(t, words+deep, 0, api.ErrLimit)
	fails(t, deep+words, 0, api.ErrLimit)
	for _, line := range []string{words, deep, words + deep, "#1=" + strings.Repeat("-", 40) + "1", "WHILE[1]DO1 " + words, "IF[" + strings.Repeat("-", 40) + "1]GOTO5 "} {
		checkLine(t, line)
		checkLine(t, line+" ]")
		checkLine(t, line+" $")
		checkLine(t, "N0 "+line)
		checkLine(t, line+"X")
	}
	fails(t, words+"]", 50, api.ErrSyntax)
	fails(t, words+"X", 51, api.ErrSyntax)
	fails(t, words+"$]", 50, api.ErrSyntax)
	fails(t, deep+"=", 18, api.ErrSyntax)
	fails(t, "WHILE["+strings.Repeat("-", 40)+"1]DO4", 50, api.ErrSyntax)
	fails(t, "#1="+strings.Repeat("ABS[", 20)+"1", 84, api.ErrSyntax)
}

// P6.1: a line of api.MaxText bytes and one more.
func TestLengthOfLines(t *testing.T) {
	for _, x := range []struct{ text, fill string }{{"G1", " "}, {"G1;", "x"}, {"G1 ;", "\x00"}, {"", " "}, {"", "\t"}} {
		for _, length := range []int{api.MaxText - 1, api.MaxText} {
			line := x.text + strings.Repeat(x.fill, length-len(x.text))
			checkLine(t, line)
			if _, at, err := syntax.Line(line); at != length || err != api.OK {
				t.Errorf("a line of %d bytes gives %d, %d", length, at, err)
			}
		}
		for _, length := range []int{api.MaxText + 1, api.MaxText + 2, 4 * api.MaxText} {
			fails(t, x.text+strings.Repeat(x.fill, length-len(x.text)), 0, api.ErrLimit)
		}
	}
	for _, text := range []string{"]", "$", "X", "X1 Y", "n", "(", "N0"} {
		fails(t, text+strings.Repeat(" ", api.MaxText), 0, api.ErrLimit)
		fails(t, strings.Repeat(" ", api.MaxText)+text, 0, api.ErrLimit)
		checkLine(t, text+strings.Repeat(" ", api.MaxText-len(text)))
		checkLine(t, strings.Repeat(" ", api.MaxText-len(text))+text)
	}
	gives(t, ";"+strings.Repeat("é", api.MaxText/2-1), api.Block{})
	fails(t, ";"+strings.Repeat("é", api.MaxText/2), 0, api.ErrLimit)
	fails(t, strings.Repeat("(", api.MaxText+1), 0, api.ErrLimit)
	fails(t, "G1\n"+strings.Repeat(" ", api.MaxText), 0, api.ErrLimit)
}

// R1, R10: lines that are as deep as their length permits.
func TestDeepLines(t *testing.T) {
	half := (api.MaxText - 4) / 2
	gives(t, "#1="+strings.Repeat("[", half)+"1"+strings.Repeat("]", half), set(num(one)))
	gives(t, "#1="+strings.Repeat("+", 2*half)+"1", set(num(one)))
	fails(t, "#1="+strings.Repeat("-", 2*half)+"1", 0, api.ErrLimit)
	fails(t, "#1="+strings.Repeat("#", 2*half)+"1", 0, api.ErrLimit)
	fails(t, "#1="+strings.Repeat("-[", half/2)+"1"+strings.Repeat("]", half/2), 0, api.ErrLimit)
	fails(t, "#1=1"+strings.Repeat("+1", half), 0, api.ErrLimit)
	for _, text := range []string{"[", "-", "#[", "1 OR ["} {
		line := "#1=" + strings.Repeat(text, (api.MaxText-4)/len(text))
		fails(t, line, len(line), api.ErrSyntax)
		fails(t, line+"]", len(line), api.ErrSyntax)
	}
}
