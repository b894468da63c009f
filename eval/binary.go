package eval

import (
	"cnc/api"
	"cnc/fixed"
)

// operation is an operator of two values.
type operation func(a, b int) (int, api.Errno)

// binary returns the operations of the operators with two Kids.
func binary() [api.OpXor + 1]operation {
	return [...]operation{
		api.OpAdd:  fixed.Add,
		api.OpSub:  fixed.Sub,
		api.OpMul:  fixed.Mul,
		api.OpDiv:  fixed.Div,
		api.OpMod:  fixed.Mod,
		api.OpAtan: direction,
		api.OpEQ:   func(a, b int) (int, api.Errno) { return answer(a == b) },
		api.OpNE:   func(a, b int) (int, api.Errno) { return answer(a != b) },
		api.OpGT:   func(a, b int) (int, api.Errno) { return answer(a > b) },
		api.OpGE:   func(a, b int) (int, api.Errno) { return answer(a >= b) },
		api.OpLT:   func(a, b int) (int, api.Errno) { return answer(a < b) },
		api.OpLE:   func(a, b int) (int, api.Errno) { return answer(a <= b) },
		api.OpAnd:  func(a, b int) (int, api.Errno) { return answer(Truth(a) && Truth(b)) },
		api.OpOr:   func(a, b int) (int, api.Errno) { return answer(Truth(a) || Truth(b)) },
		api.OpXor:  func(a, b int) (int, api.Errno) { return answer(Truth(a) != Truth(b)) },
	}
}

// answer returns the number that stands for the answer to a question.
func answer(yes bool) (int, api.Errno) {
	if yes {
		return api.Million, api.OK
	}
	return 0, api.OK
}
