package flow

import (
	"slices"

	"cnc/api"
	"cnc/fixed"
	"cnc/library"
)

// call is an open call.
type call struct {
	program int         // the index of the program that was called
	more    int         // how often the program is to be executed again
	back    place       // behind the block of the call
	local   bool        // the program has local variables of its own
	args    []api.Value // what they begin with; is never changed, so that copies of a machine share it
}

// plainCall executes a block with M98.
func (m *Machine) plainCall(values []api.Value) api.Errno {
	foreign := func(v api.Value) bool { return v.Letter != 'M' && v.Letter != 'P' && v.Letter != 'L' }
	if slices.ContainsFunc(values, foreign) || howMany(values, 'M') > 1 {
		return api.ErrConflict
	}
	c, err := m.describe(values)
	if err != api.OK {
		return err
	}
	m.open(c)
	return api.OK
}

// callWithArgs executes a block with G65.
func (m *Machine) callWithArgs(values []api.Value) api.Errno {
	if howMany(values, 'G') > 1 {
		return api.ErrConflict
	}
	c, err := m.describe(values)
	if err != api.OK {
		return err
	}
	c.local = true
	c.args = slices.DeleteFunc(values, func(v api.Value) bool { return v.Letter == 'G' || v.Letter == 'P' || v.Letter == 'L' })
	if err := m.store.Push(c.args); err != api.OK {
		return err
	}
	m.open(c)
	return api.OK
}

// comeBack executes a block with M99.
func (m *Machine) comeBack(values []api.Value) api.Errno {
	if len(values) > 1 {
		return api.ErrConflict
	}
	m.leave()
	return api.OK
}

// describe returns the call that the words P and L of a block describe.
func (m *Machine) describe(values []api.Value) (call, api.Errno) {
	switch {
	case howMany(values, 'P') > 1 || howMany(values, 'L') > 1:
		return call{}, api.ErrDuplicate
	case howMany(values, 'P') == 0:
		return call{}, api.ErrMissing
	}
	program, ok := m.programOf(values)
	if !ok {
		return call{}, api.ErrUnknown
	}
	times, ok := timesOf(values)
	if !ok {
		return call{}, api.ErrArg
	}
	if m.Depth() == api.MaxCalls {
		return call{}, api.ErrLimit
	}
	return call{program: program, more: times - 1, back: m.position}, api.OK
}

// programOf returns the index of the program that the word P names.
func (m *Machine) programOf(values []api.Value) (int, bool) {
	number, ok := fixed.Whole(word(values, 'P', 0))
	if !ok {
		return 0, false
	}
	return library.Find(m.library, number)
}

// timesOf returns how often the word L has a program executed.
func timesOf(values []api.Value) (int, bool) {
	times, ok := fixed.Whole(word(values, 'L', api.Million))
	return times, ok && times >= 1 && times <= api.MaxRepeat
}

// open opens a call and begins the first execution of its program.
func (m *Machine) open(c call) {
	m.calls = append(m.calls, c)
	m.enter(c.program)
}

// enter begins an execution of a program.
func (m *Machine) enter(program int) {
	m.position = place{program, m.library.Programs[program].First}
}

// leave ends an execution of the program that was called last, or of the main program.
func (m *Machine) leave() {
	if m.Depth() == 0 {
		m.ended = true
		return
	}
	last := &m.calls[m.Depth()-1]
	if last.local {
		m.store.Pop()
	}
	if last.more == 0 {
		m.position = last.back
		m.calls = m.calls[:m.Depth()-1]
		return
	}
	last.more--
	if last.local {
		// Push has accepted the arguments before, and a level is free again.
		m.store.Push(last.args)
	}
	m.enter(last.program)
}
