package library

import "cnc/api"

// builder takes valid blocks one after the other, and keeps their structure.
type builder struct {
	programs []api.Program // the present one is the last, and has no End yet
	mate     []int         // of the blocks that were added
	numbers  map[int]bool  // the numbers of the programs
	labels   map[int]bool  // the labels of the present program
	loops    []loop        // the open loops, a stack
}

// loop is an open loop, which begins at the block first.
type loop struct{ number, first int }

// newBuilder returns a builder in the program 0.
func newBuilder() *builder {
	b := &builder{numbers: map[int]bool{}}
	b.beginProgram(0)
	return b
}

// add takes the next block. It returns the index that an error names.
func (b *builder) add(block api.Block) (int, api.Errno) {
	at := len(b.mate)
	if block.Kind == api.BlockProgram {
		if first, err := b.endProgram(); err != api.OK {
			return first, err
		}
		if b.numbers[block.N] {
			return at, api.ErrDuplicate
		}
		b.beginProgram(block.N)
	}
	// The label of a BlockProgram belongs to the program that it begins.
	if block.Label != 0 {
		if b.labels[block.Label] {
			return at, api.ErrDuplicate
		}
		b.labels[block.Label] = true
	}
	b.mate = append(b.mate, -1)
	switch block.Kind {
	case api.BlockWhile:
		return at, b.beginLoop(block.N, at)
	case api.BlockEnd:
		return at, b.endLoop(block.N, at)
	}
	return at, api.OK
}

// beginProgram begins a program at the next block.
func (b *builder) beginProgram(number int) {
	b.programs = append(b.programs, api.Program{Number: number, First: len(b.mate)})
	b.numbers[number] = true
	b.labels = map[int]bool{}
}

// endProgram ends the present program ahead of the next block. If a loop is open, it returns the beginning of the innermost one.
func (b *builder) endProgram() (int, api.Errno) {
	if len(b.loops) > 0 {
		return b.innermost().first, api.ErrNesting
	}
	b.programs[len(b.programs)-1].End = len(b.mate)
	return 0, api.OK
}

// beginLoop opens a loop at the block at.
func (b *builder) beginLoop(number, at int) api.Errno {
	for _, open := range b.loops {
		if open.number == number {
			return api.ErrNesting
		}
	}
	b.loops = append(b.loops, loop{number, at})
	return api.OK
}

// endLoop closes the innermost loop at the block at.
func (b *builder) endLoop(number, at int) api.Errno {
	if len(b.loops) == 0 || b.innermost().number != number {
		return api.ErrNesting
	}
	first := b.innermost().first
	b.mate[first], b.mate[at] = at, first
	b.loops = b.loops[:len(b.loops)-1]
	return api.OK
}

// innermost returns the innermost open loop.
func (b *builder) innermost() loop {
	return b.loops[len(b.loops)-1]
}
