package syntax

import "cnc/api"

// operators contains, for each operator, its name or sign and the number of its Kids.
var operators = [...]struct {
	name string
	kids int
}{
	api.OpNum:   {"", 0},
	api.OpVar:   {"#", 1},
	api.OpNeg:   {"-", 1},
	api.OpAdd:   {"+", 2},
	api.OpSub:   {"-", 2},
	api.OpMul:   {"*", 2},
	api.OpDiv:   {"/", 2},
	api.OpMod:   {"MOD", 2},
	api.OpSin:   {"SIN", 1},
	api.OpCos:   {"COS", 1},
	api.OpTan:   {"TAN", 1},
	api.OpAtan:  {"ATAN", 2},
	api.OpSqrt:  {"SQRT", 1},
	api.OpAbs:   {"ABS", 1},
	api.OpRound: {"ROUND", 1},
	api.OpFix:   {"FIX", 1},
	api.OpFup:   {"FUP", 1},
	api.OpEQ:    {"EQ", 2},
	api.OpNE:    {"NE", 2},
	api.OpGT:    {"GT", 2},
	api.OpGE:    {"GE", 2},
	api.OpLT:    {"LT", 2},
	api.OpLE:    {"LE", 2},
	api.OpAnd:   {"AND", 2},
	api.OpOr:    {"OR", 2},
	api.OpXor:   {"XOR", 2},
}

// Depth returns the depth of an expression, but no more than api.MaxNest + 1.
func Depth(x api.Expr) int {
	return depthWithin(x, api.MaxNest+1)
}

// depthWithin returns the depth of x, but no more than limit. It looks at no further Kid once it has reached the limit, so that it soon returns even for an expression that contains itself.
func depthWithin(x api.Expr, limit int) int {
	depth := 1
	for i := 0; i < len(x.Kids) && depth < limit; i++ {
		depth = max(depth, 1+depthWithin(x.Kids[i], limit-1))
	}
	return depth
}

// Right reports whether x can be a part of a block.
func Right(x api.Expr) bool {
	return rightWithin(x, api.MaxNest)
}

// rightWithin reports whether x consists of right operators, numbers and Kids and is no deeper than limit.
func rightWithin(x api.Expr, limit int) bool {
	if limit == 0 || x.Op < 0 || x.Op >= len(operators) || len(x.Kids) != operators[x.Op].kids {
		return false
	}
	if x.N != 0 && (x.Op != api.OpNum || x.N < 0 || x.N >= api.MaxNum) {
		return false
	}
	for _, kid := range x.Kids {
		if !rightWithin(kid, limit-1) {
			return false
		}
	}
	return true
}

// Valid reports whether Line can return b.
func Valid(b api.Block) bool {
	if b.Label != 0 && !counts(b.Label, api.MaxLabel) {
		return false
	}
	if b.Kind == api.BlockWords {
		return rightWords(b.Words) && blank(b.Left) && blank(b.X) && b.N == 0
	}
	if len(b.Words) != 0 {
		return false
	}
	switch b.Kind {
	case api.BlockSet, api.BlockIf:
		return Right(b.Left) && Right(b.X) && b.N == 0
	case api.BlockGoto:
		return blank(b.Left) && Right(b.X) && b.N == 0
	case api.BlockWhile:
		return blank(b.Left) && Right(b.X) && counts(b.N, api.MaxLoop)
	case api.BlockEnd:
		return blank(b.Left) && blank(b.X) && counts(b.N, api.MaxLoop)
	case api.BlockProgram:
		return blank(b.Left) && blank(b.X) && counts(b.N, api.MaxLabel)
	}
	return false
}

// rightWords reports whether a block can consist of the words.
func rightWords(words []api.Word) bool {
	if len(words) > api.MaxWords {
		return false
	}
	for _, word := range words {
		if !isWord(word.Letter) || !Right(word.X) {
			return false
		}
	}
	return true
}

// isWord reports whether a word can begin with letter: N begins a label and O a program.
func isWord(letter int) bool {
	return letter >= 'A' && letter <= 'Z' && letter != 'N' && letter != 'O'
}

// counts reports whether n is from 1 to limit.
func counts(n, limit int) bool {
	return n >= 1 && n <= limit
}

// blank reports whether x is the zero value.
func blank(x api.Expr) bool {
	return x.Op == 0 && x.N == 0 && len(x.Kids) == 0
}
