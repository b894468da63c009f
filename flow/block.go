package flow

import (
	"slices"

	"cnc/api"
	"cnc/eval"
	"cnc/fixed"
	"cnc/library"
)

// advance executes the block at the position, or the end of a program. The result is zero if there is none.
func (m *Machine) advance() (api.Step, api.Errno) {
	at := m.position.at
	if at == m.library.Programs[m.position.program].End {
		m.leave()
		return api.Step{}, api.OK
	}
	// Execution continues with the next block unless this one leads elsewhere.
	m.position.at++
	block := m.library.Blocks[at]
	switch {
	case block.Skip && m.skip:
		return api.Step{}, api.OK
	case block.Kind == api.BlockWords && len(block.Words) > 0:
		return m.words(at, block.Words)
	}
	return api.Step{}, m.control(at, block)
}

// control executes the block at, which has no words.
func (m *Machine) control(at int, block api.Block) api.Errno {
	switch block.Kind {
	case api.BlockSet:
		return m.set(block)
	case api.BlockGoto:
		return m.jump(at, block.X)
	case api.BlockIf:
		return m.branch(at, block)
	case api.BlockWhile:
		return m.loop(at, block)
	case api.BlockEnd:
		m.position.at = m.library.Mate[at]
	}
	return api.OK
}

// set gives a variable its value.
func (m *Machine) set(block api.Block) api.Errno {
	number, err := eval.Eval(block.Left, m.store)
	if err != api.OK {
		return err
	}
	value, err := eval.Eval(block.X, m.store)
	if err != api.OK {
		return err
	}
	n, ok := fixed.Whole(number)
	if !ok {
		return api.ErrUnknown
	}
	return m.store.Set(n, value)
}

// branch jumps if a condition holds.
func (m *Machine) branch(at int, block api.Block) api.Errno {
	condition, err := eval.Eval(block.X, m.store)
	if err != api.OK || !eval.Truth(condition) {
		return err
	}
	return m.jump(at, block.Left)
}

// loop leaves a loop at its beginning if its condition does not hold.
func (m *Machine) loop(at int, block api.Block) api.Errno {
	condition, err := eval.Eval(block.X, m.store)
	if err != api.OK {
		return err
	}
	if !eval.Truth(condition) {
		m.position.at = m.library.Mate[at] + 1
	}
	return api.OK
}

// jump leads from the block at to the one of its program whose label is the value of x.
func (m *Machine) jump(at int, x api.Expr) api.Errno {
	n, err := eval.Eval(x, m.store)
	if err != api.OK {
		return err
	}
	label, ok := fixed.Whole(n)
	if !ok {
		return api.ErrUnknown
	}
	target, ok := library.Label(m.library, m.position.program, label)
	if !ok {
		return api.ErrUnknown
	}
	open := library.Inside(m.library, at)
	for _, loop := range library.Inside(m.library, target) {
		if !slices.Contains(open, loop) {
			return api.ErrNesting
		}
	}
	m.position.at = target
	return api.OK
}
