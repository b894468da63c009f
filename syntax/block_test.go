package syntax_test

import (
	"math"
	"slices"
	"strings"
	"testing"

	"cnc/api"
	"cnc/syntax"
)

// P6.5: fixed texts of each kind of block.
func TestFormat(t *testing.T) {
	a, b := num(one), num(2*one)
	v := leaves(api.OpVar)
	for _, x := range []struct {
		want string
		b    api.Block
	}{
		{"", api.Block{}},
		{"/", api.Block{Skip: true}},
		{"N10", api.Block{Label: 10}},
		{"/ N99999", api.Block{Skip: true, Label: 99999}},
		{"G1", api.Block{Words: []api.Word{word('G', a)}}},
		{"N1 G1", api.Block{Label: 1, Words: []api.Word{word('G', a)}}},
		{"/ G1 X2", api.Block{Skip: true, Words: []api.Word{word('G', a), word('X', b)}}},
		{"/ N7 X-1 Y#1 Z-#1 X0.5", api.Block{Skip: true, Label: 7, Words: []api.Word{word('X', branch(2, a)), word('Y', v), word('Z', branch(2, v)), word('X', num(500000))}}},
		{"X[1 + 2] A[-[-1]] B[SIN[1]] C[-SIN[1]] D-#[-1] E[-[1 / 2]] F##1 H[ATAN[1]/[2]]", api.Block{Words: []api.Word{word('X', leaves(3)), word('A', branch(2, branch(2, a))), word('B', leaves(8)), word('C', branch(2, leaves(8))), word('D', branch(2, branch(1, branch(2, a)))), word('E', branch(2, leaves(6))), word('F', branch(1, v)), word('H', leaves(11))}}},
		{"#1 = 2", api.Block{Kind: api.BlockSet, Left: a, X: b}},
		{"#0 = 0", api.Block{Kind: api.BlockSet}},
		{"/ N3 ##1 = -2", api.Block{Kind: api.BlockSet, Skip: true, Label: 3, Left: v, X: branch(2, b)}},
		{"#[-1] = 1 + 2", api.Block{Kind: api.BlockSet, Left: branch(2, a), X: leaves(3)}},
		{"#[1 + 2] = -[-1]", api.Block{Kind: api.BlockSet, Left: leaves(3), X: branch(2, branch(2, a))}},
		{"#[SIN[1]] = ATAN[1]/[2]", api.Block{Kind: api.BlockSet, Left: leaves(8), X: leaves(11)}},
		{"#1.5 = #1", api.Block{Kind: api.BlockSet, Left: num(1500000), X: v}},
		{"GOTO 2", api.Block{Kind: api.BlockGoto, X: b}},
		{"GOTO -#1", api.Block{Kind: api.BlockGoto, X: branch(2, v)}},
		{"/ GOTO [1 * 2]", api.Block{Kind: api.BlockGoto, Skip: true, X: leaves(5)}},
		{"N4 GOTO [-[1 * 2]]", api.Block{Kind: api.BlockGoto, Label: 4, X: branch(2, leaves(5))}},
		{"IF [1 EQ 2] GOTO 2", api.Block{Kind: api.BlockIf, X: leaves(17), Left: b}},
		{"IF [1] GOTO #1", api.Block{Kind: api.BlockIf, X: a, Left: v}},
		{"IF [-1] GOTO -1", api.Block{Kind: api.BlockIf, X: branch(2, a), Left: branch(2, a)}},
		{"/ N5 IF [SIN[1]] GOTO [1 + 2]", api.Block{Kind: api.BlockIf, Skip: true, Label: 5, X: leaves(8), Left: leaves(3)}},
		{"WHILE [1 LT 2] DO 1", api.Block{Kind: api.BlockWhile, X: leaves(21), N: 1}},
		{"N1 WHILE [0] DO 3", api.Block{Kind: api.BlockWhile, Label: 1, N: 3}},
		{"WHILE [#1] DO 2", api.Block{Kind: api.BlockWhile, X: v, N: 2}},
		{"END 1", api.Block{Kind: api.BlockEnd, N: 1}},
		{"/ N2 END 3", api.Block{Kind: api.BlockEnd, Skip: true, Label: 2, N: 3}},
		{"O1", api.Block{Kind: api.BlockProgram, N: 1}},
		{"N7 O100", api.Block{Kind: api.BlockProgram, Label: 7, N: 100}},
		{"/ O99999", api.Block{Kind: api.BlockProgram, Skip: true, N: 99999}},
	} {
		if got := syntax.Format(x.b); got != x.want {
			t.Errorf("Format(%+v) = %q, want %q", x.b, got, x.want)
		}
		checkFormat(t, x.b)
	}
}

// P6.3, P6.5: expressions of each operator at each place of an expression.
func TestExpressionsInBlocks(t *testing.T) {
	for _, x := range samples() {
		for _, y := range []api.Expr{x, branch(2, x), branch(1, x), branch(2, branch(1, x)), branch(11, x, x)} {
			for _, b := range deepBlocks(y) {
				checkFormat(t, b)
			}
		}
	}
	for _, bad := range wrongExprs() {
		for _, x := range []api.Expr{bad, branch(2, bad), branch(3, num(0), bad), branch(1, branch(16, bad))} {
			for _, b := range deepBlocks(x) {
				refused(t, b)
			}
		}
	}
}

// P6.3, P6.5: the kinds that exist, with each label.
func TestKindsAndLabels(t *testing.T) {
	for _, kind := range []int{-1, -7, 7, 8, 100, 256, math.MaxInt, math.MinInt} {
		refused(t, api.Block{Kind: kind})
		for _, b := range plain() {
			b.Kind = kind
			refused(t, b)
		}
	}
	for _, b := range plain() {
		for _, skip := range []bool{false, true} {
			b.Skip = skip
			for _, label := range []int{0, 1, 2, 10, 99998, 99999} {
				b.Label = label
				checkFormat(t, b)
			}
			for _, label := range []int{-1, -99999, 100000, 100001, math.MaxInt, math.MinInt} {
				b.Label = label
				refused(t, b)
			}
		}
	}
}

// P6.3, P6.5: fields that a kind does not use.
func TestUnusedFields(t *testing.T) {
	usesWords := []int{api.BlockWords}
	usesLeft := []int{api.BlockSet, api.BlockIf}
	usesX := []int{api.BlockSet, api.BlockGoto, api.BlockIf, api.BlockWhile}
	usesN := []int{api.BlockWhile, api.BlockEnd, api.BlockProgram}
	present := []api.Expr{num(1), num(one), leaves(1), leaves(2), leaves(3), leaves(8), {Kids: []api.Expr{{}}}, {Op: 26}, {N: -1}}
	for _, b := range plain() {
		for _, x := range present {
			if c := b; !slices.Contains(usesLeft, b.Kind) {
				c.Left = x
				refused(t, c)
			}
			if c := b; !slices.Contains(usesX, b.Kind) {
				c.X = x
				refused(t, c)
			}
		}
		if c := b; !slices.Contains(usesN, b.Kind) {
			for _, n := range []int{1, 2, 3, -1, 99999, math.MaxInt, math.MinInt} {
				c.N = n
				refused(t, c)
			}
		}
		if c := b; !slices.Contains(usesWords, b.Kind) {
			for _, w := range []api.Word{{}, word('X', num(one)), word('G', leaves(3))} {
				c.Words = []api.Word{w}
				refused(t, c)
			}
		}
		// R2: a slice without elements is a zero value, nil or not.
		c := b
		if len(c.Words) == 0 {
			c.Words = []api.Word{}
		}
		if len(c.Left.Kids) == 0 {
			c.Left.Kids = []api.Expr{}
		}
		if len(c.X.Kids) == 0 {
			c.X.Kids = []api.Expr{}
		}
		checkFormat(t, c)
	}
}

// P6.3, P6.5: fields that a kind uses, with values that Line cannot return.
func TestUsedFields(t *testing.T) {
	for _, n := range []int{0, -1, -3, 4, 5, 99999, math.MaxInt, math.MinInt} {
		refused(t, api.Block{Kind: api.BlockWhile, X: num(one), N: n})
		refused(t, api.Block{Kind: api.BlockEnd, N: n})
	}
	for _, n := range []int{0, -1, -99999, 100000, 100001, math.MaxInt, math.MinInt} {
		refused(t, api.Block{Kind: api.BlockProgram, N: n})
	}
	for n := 1; n <= 3; n++ {
		checkFormat(t, api.Block{Kind: api.BlockWhile, X: num(one), N: n})
		checkFormat(t, api.Block{Kind: api.BlockEnd, N: n})
	}
	for _, n := range []int{1, 3, 4, 10, 99998, 99999} {
		checkFormat(t, api.Block{Kind: api.BlockProgram, N: n})
	}
}

// P6.3, P6.5: the letters and the number of the words.
func TestWords(t *testing.T) {
	for letter := -300; letter < 600; letter++ {
		w := word(letter, num(one))
		before := word('X', num(one))
		for _, words := range [][]api.Word{{w}, {before, w}, {w, before}} {
			b := api.Block{Words: words}
			if letter >= 'A' && letter <= 'Z' && letter != 'N' && letter != 'O' {
				checkFormat(t, b)
			} else {
				refused(t, b)
			}
		}
	}
	for _, letter := range []int{math.MaxInt, math.MinInt, 'X' + 1<<8, 'X' + 1<<32, 'X' - 1<<32} {
		refused(t, api.Block{Words: []api.Word{word(letter, num(one))}})
	}
	for _, x := range []api.Expr{num(one), leaves(3), branch(2, num(0))} {
		for count := range 60 {
			b := api.Block{Words: slices.Repeat([]api.Word{word('X', x)}, count)}
			if count <= 24 {
				checkFormat(t, b)
			} else {
				refused(t, b)
			}
		}
	}
	for _, bad := range wrongExprs() {
		for at := range 24 {
			words := slices.Repeat([]api.Word{word('Y', num(one))}, 24)
			words[at].X = bad
			refused(t, api.Block{Words: words})
		}
	}
}

// The consequences, for random valid blocks of all kinds: Line(Format(b)) is b, and Parse(Text(l)) is l.
func TestTextsOfBlocks(t *testing.T) {
	r := newRandom(5)
	for range 300 {
		var l []api.Block
		want := ""
		for range r.IntN(30) {
			b := r.block(1 + r.IntN(6))
			checkFormat(t, b)
			l = append(l, b)
			want += formatted(b) + "\n"
		}
		if got := syntax.Text(l); got != want {
			t.Errorf("Text = %.500q, want %.500q", got, want)
		}
		if len(want) <= api.MaxText {
			parses(t, want, l...)
		}
		for i, line := range strings.Split(want, "\n")[:len(l)] {
			if formatted(l[i]) != line {
				t.Errorf("Text changed the block %q to %+v", line, l[i])
			}
		}
	}
}

// P6.5
func TestText(t *testing.T) {
	for _, x := range []struct {
		want string
		l    []api.Block
	}{
		{"", nil}, {"", []api.Block{}}, {"\n", []api.Block{{}}}, {"\n\n\n", []api.Block{{}, {}, {}}}, {"END 1\n", []api.Block{{Kind: api.BlockEnd, N: 1}}}, {"O5\n\nN3\n/\n", []api.Block{{Kind: api.BlockProgram, N: 5}, {}, {Label: 3}, {Skip: true}}},
	} {
		if got := syntax.Text(x.l); got != x.want {
			t.Errorf("Text = %q, want %q", got, x.want)
		}
		parses(t, x.want, x.l...)
	}
	// A block that is not valid has an empty text.
	if got := syntax.Text([]api.Block{{Kind: 7}, {Kind: api.BlockEnd, N: 2}, {N: 1}, {Label: 8}}); got != "\nEND 2\n\nN8\n" {
		t.Errorf("Text = %q", got)
	}
	all := slices.Repeat(plain(), api.MaxLines/8)
	if want := strings.Count(syntax.Text(all), "\n"); want != api.MaxLines {
		t.Errorf("%d lines", want)
	}
	parses(t, syntax.Text(all), all...)
	parseFails(t, syntax.Text(append(all, api.Block{})), 0, api.ErrLimit)
}

// P6.3: a block whose text is longer than a line may be valid all the same.
func TestValidBlocksWithLongTexts(t *testing.T) {
	x := num(api.MaxNum - 1)
	for range 12 {
		x = branch(api.OpSub, x, x)
	}
	b := api.Block{Words: []api.Word{word('X', x)}}
	if text := syntax.Format(b); !syntax.Valid(b) || len(text) <= api.MaxText || text != formatted(b) {
		t.Errorf("valid %v, %d bytes", syntax.Valid(b), len(text))
	}
	fails(t, syntax.Format(b), 0, api.ErrLimit)
	parseFails(t, syntax.Text([]api.Block{b}), 0, api.ErrLimit)
}
