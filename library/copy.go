package library

import "cnc/api"

// copies returns a list of the copies of the elements of another one.
func copies[T any](list []T, copyOne func(T) T) []T {
	result := make([]T, len(list))
	for i, x := range list {
		result[i] = copyOne(x)
	}
	return result
}

// copyBlock returns a copy of a block that shares no memory with it.
func copyBlock(b api.Block) api.Block {
	b.Words = copies(b.Words, copyWord)
	b.Left, b.X = copyExpr(b.Left), copyExpr(b.X)
	return b
}

func copyWord(w api.Word) api.Word {
	w.X = copyExpr(w.X)
	return w
}

func copyExpr(x api.Expr) api.Expr {
	x.Kids = copies(x.Kids, copyExpr)
	return x
}
