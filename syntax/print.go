package syntax

import (
	"strconv"
	"strings"

	"cnc/api"
	"cnc/fixed"
)

// Print returns the text of an expression.
func Print(x api.Expr) string {
	if !Right(x) {
		return ""
	}
	return printed(x)
}

// Format returns the text of a block.
func Format(b api.Block) string {
	if !Valid(b) {
		return ""
	}
	var parts []string
	if b.Skip {
		parts = append(parts, "/")
	}
	if b.Label != 0 {
		parts = append(parts, "N"+strconv.Itoa(b.Label))
	}
	for _, word := range b.Words {
		parts = append(parts, string(rune(word.Letter))+valued(word.X))
	}
	if b.Kind != api.BlockWords {
		parts = append(parts, control(b))
	}
	return strings.Join(parts, " ")
}

// Text returns the text of a list of blocks.
func Text(l []api.Block) string {
	var text strings.Builder
	for _, block := range l {
		text.WriteString(Format(block))
		text.WriteByte('\n')
	}
	return text.String()
}

// control returns the content of a block that is not one of words.
func control(b api.Block) string {
	switch b.Kind {
	case api.BlockSet:
		return variable(b.Left) + " = " + printed(b.X)
	case api.BlockIf:
		return "IF " + inBrackets(b.X) + " GOTO " + valued(b.Left)
	case api.BlockGoto:
		return "GOTO " + valued(b.X)
	case api.BlockWhile:
		return "WHILE " + inBrackets(b.X) + " DO " + strconv.Itoa(b.N)
	case api.BlockEnd:
		return "END " + strconv.Itoa(b.N)
	}
	return "O" + strconv.Itoa(b.N)
}

// printed is Print for a right expression.
func printed(x api.Expr) string {
	switch x.Op {
	case api.OpNum, api.OpVar, api.OpAtan:
		return closed(x)
	case api.OpNeg:
		return "-" + closed(x.Kids[0])
	}
	if len(x.Kids) == 1 {
		return closed(x)
	}
	return closed(x.Kids[0]) + " " + operators[x.Op].name + " " + closed(x.Kids[1])
}

// closed returns the closed form of a right expression, which can stand beside any operator.
func closed(x api.Expr) string {
	switch x.Op {
	case api.OpNum:
		return fixed.Format(x.N)
	case api.OpVar:
		return variable(x.Kids[0])
	case api.OpAtan:
		return "ATAN" + inBrackets(x.Kids[0]) + "/" + inBrackets(x.Kids[1])
	case api.OpNeg:
		return inBrackets(x)
	}
	if len(x.Kids) == 1 {
		return operators[x.Op].name + inBrackets(x.Kids[0])
	}
	return inBrackets(x)
}

// variable returns the text of the variable whose number is cell.
func variable(cell api.Expr) string {
	if simple(cell) {
		return "#" + closed(cell)
	}
	return "#" + inBrackets(cell)
}

// valued returns the text of a right expression as a value.
func valued(x api.Expr) string {
	switch {
	case simple(x):
		return closed(x)
	case x.Op == api.OpNeg && simple(x.Kids[0]):
		return "-" + closed(x.Kids[0])
	}
	return inBrackets(x)
}

// inBrackets returns the text of a right expression in brackets.
func inBrackets(x api.Expr) string {
	return "[" + printed(x) + "]"
}

// simple reports whether x is a number or a variable.
func simple(x api.Expr) bool {
	return x.Op == api.OpNum || x.Op == api.OpVar
}
