package syntax

import (
	"cnc/api"
	"cnc/fixed"
)

// parser reads the tokens of a line from its beginning. Each rule of the grammar is a method that reads what the rule describes, or panics with a failure.
type parser struct {
	tokens []api.Token
	at     int // the index of the next token
	length int // of the line
}

// failure is the value of a panic: an error at an offset of the line.
type failure struct {
	at  int
	err api.Errno
}

// next returns the next token without taking it. At the end of the line this is a token of no kind.
func (p *parser) next() api.Token {
	if p.at == len(p.tokens) {
		return api.Token{At: p.length}
	}
	return p.tokens[p.at]
}

// unexpected is the failure that the next token cannot follow.
func (p *parser) unexpected() failure {
	return failure{p.next().At, api.ErrSyntax}
}

// accept takes the next token if it is the name or the sign text, and reports whether it is.
func (p *parser) accept(text string) bool {
	if p.next().Text != text {
		return false
	}
	p.at++
	return true
}

// expect takes the next token, which must be the name or the sign text.
func (p *parser) expect(text string) {
	if !p.accept(text) {
		panic(p.unexpected())
	}
}

// acceptLetter takes the next token if it is the given letter, and reports whether it is.
func (p *parser) acceptLetter(letter int) bool {
	if token := p.next(); token.Kind != api.TokLetter || token.N != letter {
		return false
	}
	p.at++
	return true
}

// acceptOperator takes the next token if it is the name or the sign of an operator from first to last, and returns that operator.
func (p *parser) acceptOperator(first, last int) (int, bool) {
	for op := first; op <= last; op++ {
		if p.accept(operators[op].name) {
			return op, true
		}
	}
	return 0, false
}

// whole takes the next token, which must be an integer from 1 to limit.
func (p *parser) whole(limit int) int {
	token := p.next()
	n, ok := fixed.Whole(token.N)
	if token.Kind != api.TokNumber || !ok || !counts(n, limit) {
		panic(p.unexpected())
	}
	p.at++
	return n
}

func (p *parser) line() api.Block {
	skip := p.accept("/")
	label := 0
	if p.acceptLetter('N') {
		label = p.count()
	}
	block := p.content()
	block.Skip, block.Label = skip, label
	if p.at < len(p.tokens) {
		panic(p.unexpected())
	}
	return block
}

func (p *parser) content() api.Block {
	switch p.next().Text {
	case "#":
		return p.set()
	case "IF":
		return p.branch()
	case "GOTO":
		return p.jump()
	case "WHILE":
		return p.while()
	case "END":
		return p.end()
	}
	if p.acceptLetter('O') {
		return p.program()
	}
	return p.words()
}

func (p *parser) words() api.Block {
	var words []api.Word
	for token := p.next(); token.Kind == api.TokLetter && isWord(token.N); token = p.next() {
		p.at++
		words = append(words, api.Word{Letter: token.N, X: p.value()})
	}
	return api.Block{Kind: api.BlockWords, Words: words}
}

func (p *parser) set() api.Block {
	p.expect("#")
	cell := p.cell()
	p.expect("=")
	return api.Block{Kind: api.BlockSet, Left: cell, X: p.or()}
}

// branch is the rule if.
func (p *parser) branch() api.Block {
	p.expect("IF")
	condition := p.bracketed()
	p.expect("GOTO")
	return api.Block{Kind: api.BlockIf, X: condition, Left: p.value()}
}

// jump is the rule goto.
func (p *parser) jump() api.Block {
	p.expect("GOTO")
	return api.Block{Kind: api.BlockGoto, X: p.value()}
}

func (p *parser) while() api.Block {
	p.expect("WHILE")
	condition := p.bracketed()
	p.expect("DO")
	return api.Block{Kind: api.BlockWhile, X: condition, N: p.loop()}
}

func (p *parser) end() api.Block {
	p.expect("END")
	return api.Block{Kind: api.BlockEnd, N: p.loop()}
}

// program reads what follows the letter O.
func (p *parser) program() api.Block {
	return api.Block{Kind: api.BlockProgram, N: p.count()}
}

func (p *parser) count() int {
	return p.whole(api.MaxLabel)
}

func (p *parser) loop() int {
	return p.whole(api.MaxLoop)
}

// value is a cell with at most one sign.
func (p *parser) value() api.Expr {
	if p.accept("-") {
		return node(api.OpNeg, p.cell())
	}
	p.accept("+")
	return p.cell()
}

func (p *parser) cell() api.Expr {
	token := p.next()
	switch {
	case token.Kind == api.TokNumber:
		p.at++
		return api.Expr{Op: api.OpNum, N: token.N}
	case p.accept("#"):
		return node(api.OpVar, p.cell())
	}
	return p.bracketed()
}

// bracketed reads an expression in brackets.
func (p *parser) bracketed() api.Expr {
	p.expect("[")
	x := p.or()
	p.expect("]")
	return x
}

// chain reads operands with the operators from first to last between them, which bind from left to right.
func (p *parser) chain(first, last int, operand func() api.Expr) api.Expr {
	x := operand()
	for {
		op, ok := p.acceptOperator(first, last)
		if !ok {
			return x
		}
		x = node(op, x, operand())
	}
}

func (p *parser) or() api.Expr {
	return p.chain(api.OpOr, api.OpXor, p.and)
}

func (p *parser) and() api.Expr {
	return p.chain(api.OpAnd, api.OpAnd, p.test)
}

func (p *parser) test() api.Expr {
	x := p.sum()
	if op, ok := p.acceptOperator(api.OpEQ, api.OpLE); ok {
		return node(op, x, p.sum())
	}
	return x
}

func (p *parser) sum() api.Expr {
	return p.chain(api.OpAdd, api.OpSub, p.product)
}

// product is the rule prod.
func (p *parser) product() api.Expr {
	return p.chain(api.OpMul, api.OpMod, p.unary)
}

func (p *parser) unary() api.Expr {
	switch {
	case p.accept("-"):
		return node(api.OpNeg, p.unary())
	case p.accept("+"):
		return p.unary()
	}
	return p.primary()
}

func (p *parser) primary() api.Expr {
	if p.accept("ATAN") {
		first := p.bracketed()
		p.expect("/")
		return node(api.OpAtan, first, p.bracketed())
	}
	if op, ok := p.function(); ok {
		return node(op, p.bracketed())
	}
	return p.cell()
}

// function takes the next token if it is the name of a function with one argument, and returns its operator.
func (p *parser) function() (int, bool) {
	if op, ok := p.acceptOperator(api.OpSin, api.OpTan); ok {
		return op, true
	}
	return p.acceptOperator(api.OpSqrt, api.OpFup)
}

// node returns an expression of an operator and its operands.
func node(op int, kids ...api.Expr) api.Expr {
	return api.Expr{Op: op, Kids: kids}
}
