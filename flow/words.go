package flow

import (
	"slices"

	"cnc/api"
	"cnc/eval"
)

// Commands are the values that the control flow executes itself.
const (
	noCommand    = 0
	plainCall    = 1 // M98
	callWithArgs = 2 // G65
	comeBack     = 3 // M99
)

// words executes the block at, which has words.
func (m *Machine) words(at int, words []api.Word) (api.Step, api.Errno) {
	values, err := m.values(words)
	if err != api.OK {
		return api.Step{}, err
	}
	command, err := commandOf(values)
	if err != api.OK {
		return api.Step{}, err
	}
	switch command {
	case plainCall:
		return api.Step{}, m.plainCall(values)
	case callWithArgs:
		return api.Step{}, m.callWithArgs(values)
	case comeBack:
		return api.Step{}, m.comeBack(values)
	}
	m.ended = slices.ContainsFunc(values, isEnd)
	return api.Step{Kind: api.StepBlock, Block: at, Values: values}, api.OK
}

// values returns the values of words.
func (m *Machine) values(words []api.Word) ([]api.Value, api.Errno) {
	values := make([]api.Value, len(words))
	for i, w := range words {
		n, err := eval.Eval(w.X, m.store)
		if err != api.OK {
			return nil, err
		}
		values[i] = api.Value{Letter: w.Letter, N: n}
	}
	return values, api.OK
}

// commandOf returns the command of a block, which has no more than one.
func commandOf(values []api.Value) (int, api.Errno) {
	found := noCommand
	for _, v := range values {
		command := commandIn(v)
		if command == noCommand {
			continue
		}
		if found != noCommand {
			return noCommand, api.ErrConflict
		}
		found = command
	}
	return found, api.OK
}

// commandIn returns the command that a value is.
func commandIn(v api.Value) int {
	switch {
	case isCode(v, 'M', 98):
		return plainCall
	case isCode(v, 'G', 65):
		return callWithArgs
	case isCode(v, 'M', 99):
		return comeBack
	}
	return noCommand
}

// isEnd reports whether a value ends the execution.
func isEnd(v api.Value) bool {
	return isCode(v, 'M', 2) || isCode(v, 'M', 30)
}

func isCode(v api.Value, letter, code int) bool {
	return v.Letter == letter && v.N == code*api.Million
}

// howMany returns the number of values with a letter.
func howMany(values []api.Value, letter int) int {
	n := 0
	for _, v := range values {
		if v.Letter == letter {
			n++
		}
	}
	return n
}

// word returns the value with a letter, or another one if there is none.
func word(values []api.Value, letter, without int) int {
	for _, v := range values {
		if v.Letter == letter {
			return v.N
		}
	}
	return without
}
