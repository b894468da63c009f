package syntax_test

import (
	"slices"
	"strings"

	"cnc/api"
	"cnc/fixed"
)

// grammar is the grammar of the chapter without braces and brackets: what they enclose has a rule of its own, with an empty alternative. The words letter, N, O, number, count and loop are tokens, and so is each word that has no rule. A rule and its alternatives are separated by colons.
const grammar = `
line : skip label content
skip : / :
label : N count :
content : words : set : if : goto : while : end : program
words : letter value words :
set : # cell = or
if : IF [ or ] GOTO value
goto : GOTO value
while : WHILE [ or ] DO loop
end : END loop
program : O count
value : sign number : sign # cell : sign [ or ]
sign : + : - :
cell : number : # cell : [ or ]
or : and ors
ors : OR and ors : XOR and ors :
and : test ands
ands : AND test ands :
test : sum comparison
comparison : EQ sum : NE sum : GT sum : GE sum : LT sum : LE sum :
sum : prod prods
prods : + prod prods : - prod prods :
prod : unary unaries
unaries : * unary unaries : / unary unaries : MOD unary unaries :
unary : + unary : - unary : primary
primary : number : # cell : [ or ] : function [ or ] : ATAN [ or ] / [ or ]
function : SIN : COS : TAN : SQRT : ABS : ROUND : FIX : FUP
`

// rules are the alternatives of each rule of the grammar.
var rules = readRules()

func readRules() map[string][][]string {
	table := map[string][][]string{}
	for line := range strings.Lines(strings.TrimSpace(grammar)) {
		parts := strings.Split(line, ":")
		name := strings.TrimSpace(parts[0])
		for _, part := range parts[1:] {
			table[name] = append(table[name], strings.Fields(part))
		}
	}
	return table
}

// recognizer follows all ways at once in which tokens can be derived from the grammar. Each way is a list of what must still come.
type recognizer struct {
	ways [][]string
}

func newRecognizer() *recognizer {
	return &recognizer{expand([]string{"line"})}
}

// expand returns the ways that a way leads to before the next token: those that begin with a token, and the empty one.
func expand(way []string) [][]string {
	if len(way) == 0 {
		return [][]string{nil}
	}
	alternatives, ok := rules[way[0]]
	if !ok {
		return [][]string{way}
	}
	var found [][]string
	for _, alternative := range alternatives {
		found = append(found, expand(slices.Concat(alternative, way[1:]))...)
	}
	return found
}

// with returns the recognizer after a token, or nil if the token cannot follow.
func (r *recognizer) with(token api.Token) *recognizer {
	var ways [][]string
	for _, way := range r.ways {
		if len(way) > 0 && stands(way[0], token) {
			ways = append(ways, expand(way[1:])...)
		}
	}
	if len(ways) == 0 {
		return nil
	}
	return &recognizer{ways}
}

// complete reports whether the line may end here.
func (r *recognizer) complete() bool {
	return slices.ContainsFunc(r.ways, func(way []string) bool { return len(way) == 0 })
}

// stands reports whether symbol stands for the token.
func stands(symbol string, token api.Token) bool {
	n, whole := fixed.Whole(token.N)
	number := token.Kind == api.TokNumber
	letter := token.Kind == api.TokLetter
	switch symbol {
	case "number":
		return number
	case "count":
		return number && whole && n >= 1 && n <= 99999
	case "loop":
		return number && whole && n >= 1 && n <= 3
	case "letter":
		return letter && token.N != 'N' && token.N != 'O'
	case "N", "O":
		return letter && token.N == int(symbol[0])
	}
	return symbol == token.Text
}

// read returns the block of a line that the grammar describes.
func read(tokens []api.Token) api.Block {
	var b api.Block
	if begins(tokens, "/") {
		b.Skip = true
		tokens = tokens[1:]
	}
	if len(tokens) > 0 && tokens[0].N == 'N' {
		b.Label = tokens[1].N / api.Million
		tokens = tokens[2:]
	}
	if len(tokens) == 0 {
		return b
	}
	last := tokens[len(tokens)-1].N / api.Million
	switch first := tokens[0]; {
	case first.Text == "#":
		at := find(tokens, "=")
		b.Kind, b.Left, b.X = api.BlockSet, readExpr(tokens[1:at]), readExpr(tokens[at+1:])
	case first.Text == "IF":
		at := find(tokens, "GOTO")
		b.Kind, b.X, b.Left = api.BlockIf, readExpr(tokens[1:at]), readExpr(tokens[at+1:])
	case first.Text == "GOTO":
		b.Kind, b.X = api.BlockGoto, readExpr(tokens[1:])
	case first.Text == "WHILE":
		b.Kind, b.X, b.N = api.BlockWhile, readExpr(tokens[1:find(tokens, "DO")]), last
	case first.Text == "END":
		b.Kind, b.N = api.BlockEnd, last
	case first.N == 'O':
		b.Kind, b.N = api.BlockProgram, last
	default:
		b.Words = readWords(tokens)
	}
	return b
}

// readWords returns the words: no letter stands within a value.
func readWords(tokens []api.Token) []api.Word {
	var words []api.Word
	for len(tokens) > 0 {
		end := 1
		for end < len(tokens) && tokens[end].Kind != api.TokLetter {
			end++
		}
		words = append(words, api.Word{Letter: tokens[0].N, X: readExpr(tokens[1:end])})
		tokens = tokens[end:]
	}
	return words
}

// levels are the operators with two operands, the weakest ones first.
var levels = []map[string]int{
	{"OR": 24, "XOR": 25},
	{"AND": 23},
	{"EQ": 17, "NE": 18, "GT": 19, "GE": 20, "LT": 21, "LE": 22},
	{"+": 3, "-": 4},
	{"*": 5, "/": 6, "MOD": 7},
}

// functions are the functions of one operand.
var functions = map[string]int{"SIN": 8, "COS": 9, "TAN": 10, "SQRT": 12, "ABS": 13, "ROUND": 14, "FIX": 15, "FUP": 16}

// readExpr returns the expression that consists of the tokens. It divides them at the last one of the weakest operators.
func readExpr(tokens []api.Token) api.Expr {
	for _, level := range levels {
		if at := lastOperator(tokens, level); at > 0 {
			return branch(level[tokens[at].Text], readExpr(tokens[:at]), readExpr(tokens[at+1:]))
		}
	}
	first := tokens[0]
	switch first.Text {
	case "":
		return num(first.N)
	case "+":
		return readExpr(tokens[1:])
	case "-":
		return branch(2, readExpr(tokens[1:]))
	case "#":
		return branch(1, readExpr(tokens[1:]))
	case "[":
		return readExpr(tokens[1 : len(tokens)-1])
	case "ATAN":
		at := 1 + closing(tokens[1:])
		return branch(11, readExpr(tokens[1:at+1]), readExpr(tokens[at+2:]))
	}
	return branch(functions[first.Text], readExpr(tokens[1:]))
}

// lastOperator returns the index of the last operator of a level that stands in no brackets, and 0 if there is none. An operator follows a number or a closing bracket; the stroke of ATAN is none.
func lastOperator(tokens []api.Token, level map[string]int) int {
	found := 0
	atan := false
	for at := 0; at < len(tokens); at++ {
		switch text := tokens[at].Text; {
		case text == "[":
			at += closing(tokens[at:])
		case text == "ATAN":
			atan = true
		case text == "/" && atan:
			atan = false
		case at > 0 && level[text] > 0 && (tokens[at-1].Text == "]" || tokens[at-1].Kind == api.TokNumber):
			found = at
		}
	}
	return found
}

// closing returns the index of the bracket that closes the first one.
func closing(tokens []api.Token) int {
	open := 0
	for at, token := range tokens {
		switch token.Text {
		case "[":
			open++
		case "]":
			open--
		}
		if open == 0 {
			return at
		}
	}
	return -1
}

func begins(tokens []api.Token, text string) bool {
	return len(tokens) > 0 && tokens[0].Text == text
}

func find(tokens []api.Token, text string) int {
	return slices.IndexFunc(tokens, func(token api.Token) bool { return token.Text == text })
}
