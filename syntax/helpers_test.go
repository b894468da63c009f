package syntax_test

import (
	"math/rand/v2"
	"strconv"
	"strings"
	"testing"

	"cnc/api"
	"cnc/fixed"
	"cnc/lex"
	"cnc/syntax"
)

const one = api.Million

func num(n int) api.Expr {
	return api.Expr{N: n}
}

func branch(op int, kids ...api.Expr) api.Expr {
	return api.Expr{Op: op, Kids: kids}
}

func word(letter int, x api.Expr) api.Word {
	return api.Word{Letter: letter, X: x}
}

func sameExpr(a, b api.Expr) bool {
	if a.Op != b.Op || a.N != b.N || len(a.Kids) != len(b.Kids) {
		return false
	}
	for i := range a.Kids {
		if !sameExpr(a.Kids[i], b.Kids[i]) {
			return false
		}
	}
	return true
}

func sameBlock(a, b api.Block) bool {
	if a.Kind != b.Kind || a.Label != b.Label || a.Skip != b.Skip || a.N != b.N || len(a.Words) != len(b.Words) {
		return false
	}
	for i := range a.Words {
		if a.Words[i].Letter != b.Words[i].Letter || !sameExpr(a.Words[i].X, b.Words[i].X) {
			return false
		}
	}
	return sameExpr(a.Left, b.Left) && sameExpr(a.X, b.X)
}

// gives fails the test unless the line describes the block.
func gives(t *testing.T, line string, want api.Block) {
	t.Helper()
	b, at, err := syntax.Line(line)
	if !sameBlock(b, want) || at != len(line) || err != api.OK {
		t.Errorf("Line(%.200q) = %+v, %d, %d, want %+v, %d, %d", line, b, at, err, want, len(line), api.OK)
	}
}

// fails fails the test unless the line has the error at the offset.
func fails(t *testing.T, line string, wantAt int, want api.Errno) {
	t.Helper()
	b, at, err := syntax.Line(line)
	if !sameBlock(b, api.Block{}) || at != wantAt || err != want {
		t.Errorf("Line(%.200q) = %+v, %d, %d, want no block, %d, %d", line, b, at, err, wantAt, want)
	}
}

// set returns the block #1 = x.
func set(x api.Expr) api.Block {
	return api.Block{Kind: api.BlockSet, Left: num(one), X: x}
}

// reads fails the test unless the text is read as the expression x.
func reads(t *testing.T, text string, x api.Expr) {
	t.Helper()
	gives(t, "#1="+text, set(x))
	gives(t, "X["+text+"]", api.Block{Words: []api.Word{word('X', x)}})
	gives(t, "WHILE["+text+"]DO1", api.Block{Kind: api.BlockWhile, X: x, N: 1})
}

// depth is the depth of an expression without a limit.
func depth(x api.Expr) int {
	deepest := 0
	for _, kid := range x.Kids {
		deepest = max(deepest, depth(kid))
	}
	return 1 + deepest
}

// describes fails the test unless the line has the result that belongs to the block that it describes: this block, or an error if the block is beyond a limit.
func describes(t *testing.T, line string, b api.Block) {
	t.Helper()
	deepest := max(depth(b.Left), depth(b.X))
	for _, w := range b.Words {
		deepest = max(deepest, depth(w.X))
	}
	if deepest > 16 || len(b.Words) > 24 {
		fails(t, line, 0, api.ErrLimit)
		return
	}
	gives(t, line, b)
}

// checkLine compares Line with the grammar and the limits.
func checkLine(t *testing.T, line string) {
	t.Helper()
	tokens, at, err := lex.Tokens(line)
	if err != api.OK {
		fails(t, line, at, err)
		return
	}
	r := newRecognizer()
	for _, token := range tokens {
		r = r.with(token)
		if r == nil {
			fails(t, line, token.At, api.ErrSyntax)
			return
		}
	}
	if !r.complete() {
		fails(t, line, len(line), api.ErrSyntax)
		return
	}
	describes(t, line, read(tokens))
}

// templates are the forms of P6.4 in the order of the operators: p stands for Print of a Kid, c for its closed form.
var templates = strings.Split("| |-c|c + c|c - c|c * c|c / c|c MOD c|SIN[p]|COS[p]|TAN[p]|ATAN[p]/[p]|SQRT[p]|ABS[p]|ROUND[p]|FIX[p]|FUP[p]|c EQ c|c NE c|c GT c|c GE c|c LT c|c LE c|c AND c|c OR c|c XOR c", "|")

// printed is Print by the templates, for expressions of any depth.
func printed(x api.Expr) string {
	switch {
	case x.Op == api.OpNum:
		return fixed.Format(x.N)
	case x.Op == api.OpVar && x.Kids[0].Op <= api.OpVar:
		return "#" + printed(x.Kids[0])
	case x.Op == api.OpVar:
		return "#[" + printed(x.Kids[0]) + "]"
	}
	text := ""
	kid := 0
	for _, c := range templates[x.Op] {
		switch c {
		case 'p':
			text += printed(x.Kids[kid])
			kid++
		case 'c':
			text += closed(x.Kids[kid])
			kid++
		default:
			text += string(c)
		}
	}
	return text
}

// closed is the closed form by the templates.
func closed(x api.Expr) string {
	if strings.Contains(templates[x.Op], "c") {
		return "[" + printed(x) + "]"
	}
	return printed(x)
}

// asValue is the form of a value of P6.5.
func asValue(x api.Expr) string {
	switch {
	case x.Op <= api.OpVar, x.Op == api.OpNeg && x.Kids[0].Op <= api.OpVar:
		return printed(x)
	}
	return "[" + printed(x) + "]"
}

// formatted is the form of a block of P6.5, whether it is valid or not.
func formatted(b api.Block) string {
	text := ""
	if b.Skip {
		text += " /"
	}
	if b.Label != 0 {
		text += " N" + strconv.Itoa(b.Label)
	}
	for _, w := range b.Words {
		text += " " + string(rune(w.Letter)) + asValue(w.X)
	}
	n := strconv.Itoa(b.N)
	switch b.Kind {
	case api.BlockSet:
		text += " " + printed(branch(api.OpVar, b.Left)) + " = " + printed(b.X)
	case api.BlockIf:
		text += " IF [" + printed(b.X) + "] GOTO " + asValue(b.Left)
	case api.BlockGoto:
		text += " GOTO " + asValue(b.X)
	case api.BlockWhile:
		text += " WHILE [" + printed(b.X) + "] DO " + n
	case api.BlockEnd:
		text += " END " + n
	case api.BlockProgram:
		text += " O" + n
	}
	return strings.TrimPrefix(text, " ")
}

// operands is the number of Kids of each operator, in their order.
var operands = [...]int{0, 1, 1, 2, 2, 2, 2, 2, 1, 1, 1, 2, 1, 1, 1, 1, 1, 2, 2, 2, 2, 2, 2, 2, 2, 2}

// leaves returns an expression of op whose Kids are the numbers 1 and 2.
func leaves(op int) api.Expr {
	if op == api.OpNum {
		return num(7500000)
	}
	return branch(op, []api.Expr{num(one), num(2 * one)}[:operands[op]]...)
}

// samples returns an expression of each operator, and some more.
func samples() []api.Expr {
	list := []api.Expr{num(0), num(1), num(api.MaxNum - 1), num(500000), branch(1, leaves(1)), branch(1, leaves(3)), branch(2, leaves(1)), branch(2, leaves(2)), branch(2, leaves(13))}
	for op := range operands {
		list = append(list, leaves(op))
	}
	return list
}

// chain returns an expression of the given depth in which each operator is op, and side is the index of the deep Kid. An operator with one Kid has no other.
func chain(op, side, depth int) api.Expr {
	x := num(3 * one)
	for range depth - 1 {
		kids := make([]api.Expr, operands[op])
		kids[min(side, len(kids)-1)] = x
		x = branch(op, kids...)
	}
	return x
}

// random makes expressions and blocks, the same ones in every run.
type random struct{ *rand.Rand }

func newRandom(seed uint64) random {
	return random{rand.New(rand.NewPCG(seed, 6))}
}

// number returns a number, often one with few digits.
func (r random) number() int {
	switch r.IntN(4) {
	case 0:
		return r.IntN(api.MaxNum)
	case 1:
		return r.IntN(1000)
	}
	return r.IntN(20) * one
}

// expr returns a right expression that is no deeper than depth.
func (r random) expr(depth int) api.Expr {
	op := r.IntN(len(operands))
	if depth == 1 || r.IntN(4) == 0 {
		return num(r.number())
	}
	x := api.Expr{Op: op}
	if op == api.OpNum {
		x.N = r.number()
	}
	for range operands[op] {
		x.Kids = append(x.Kids, r.expr(depth-1))
	}
	return x
}

// block returns a valid block.
func (r random) block(depth int) api.Block {
	b := api.Block{Kind: r.IntN(7), Skip: r.IntN(3) == 0}
	if r.IntN(3) == 0 {
		b.Label = 1 + r.IntN(api.MaxLabel)
	}
	switch b.Kind {
	case api.BlockWords:
		for range r.IntN(6) {
			b.Words = append(b.Words, word(int("ABCDEFGHIJKLMPQRSTUVWXYZ"[r.IntN(24)]), r.expr(depth)))
		}
	case api.BlockSet, api.BlockIf:
		b.Left, b.X = r.expr(depth), r.expr(depth)
	case api.BlockGoto:
		b.X = r.expr(depth)
	case api.BlockWhile:
		b.X, b.N = r.expr(depth), 1+r.IntN(api.MaxLoop)
	case api.BlockEnd:
		b.N = 1 + r.IntN(api.MaxLoop)
	case api.BlockProgram:
		b.N = 1 + r.IntN(api.MaxLabel)
	}
	return b
}

// plain returns a valid block of each kind without a slash and a label, with different numbers in all fields.
func plain() []api.Block {
	return []api.Block{
		{Kind: api.BlockWords},
		{Kind: api.BlockWords, Words: []api.Word{word('G', num(one)), word('X', leaves(api.OpSub))}},
		{Kind: api.BlockSet, Left: num(101 * one), X: leaves(api.OpMul)},
		{Kind: api.BlockGoto, X: num(20 * one)},
		{Kind: api.BlockIf, Left: num(30 * one), X: leaves(api.OpLT)},
		{Kind: api.BlockWhile, X: leaves(api.OpGE), N: 2},
		{Kind: api.BlockEnd, N: 3},
		{Kind: api.BlockProgram, N: 4000},
	}
}

func copyExpr(x api.Expr) api.Expr {
	kids := make([]api.Expr, len(x.Kids))
	for i, kid := range x.Kids {
		kids[i] = copyExpr(kid)
	}
	x.Kids = kids
	return x
}

func copyBlock(b api.Block) api.Block {
	words := make([]api.Word, len(b.Words))
	for i, w := range b.Words {
		words[i] = word(w.Letter, copyExpr(w.X))
	}
	b.Words, b.Left, b.X = words, copyExpr(b.Left), copyExpr(b.X)
	return b
}

// checkExpr fails the test unless x is a right expression of the wanted depth, with the text of the templates.
func checkExpr(t *testing.T, x api.Expr, deep int) {
	t.Helper()
	before := copyExpr(x)
	got, right, text := syntax.Depth(x), syntax.Right(x), syntax.Print(x)
	if got != deep || !right || text != printed(x) {
		t.Errorf("%+v: depth %d, right %v, text %.200q, want %d, true, %.200q", x, got, right, text, deep, printed(x))
	}
	if !sameExpr(x, before) {
		t.Errorf("%+v became %+v", before, x)
	}
}

// wrong fails the test unless x is no right expression and has the wanted depth.
func wrong(t *testing.T, x api.Expr, deep int) {
	t.Helper()
	got, right, text := syntax.Depth(x), syntax.Right(x), syntax.Print(x)
	if got != deep || right || text != "" {
		t.Errorf("%+v: depth %d, right %v, text %.200q, want %d, false and no text", x, got, right, text, deep)
	}
}

// checkFormat fails the test unless b is a valid block with the text of the templates, which Line reads.
func checkFormat(t *testing.T, b api.Block) {
	t.Helper()
	before := copyBlock(b)
	valid, text := syntax.Valid(b), syntax.Format(b)
	if !valid || text != formatted(b) {
		t.Errorf("%+v: valid %v, text %.200q, want true, %.200q", b, valid, text, formatted(b))
	}
	if !sameBlock(b, before) {
		t.Errorf("%+v became %+v", before, b)
	}
	gives(t, text, b)
}

// refused fails the test unless b is not a valid block.
func refused(t *testing.T, b api.Block) {
	t.Helper()
	if valid, text := syntax.Valid(b), syntax.Format(b); valid || text != "" {
		t.Errorf("%+v: valid %v, text %.200q, want false and no text", b, valid, text)
	}
}
