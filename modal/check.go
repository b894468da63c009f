package modal

import (
	"cnc/api"
	"cnc/fixed"
)

// contents tells what the values of a block are, up to one of them.
type contents struct {
	groups  [lastGroup + 1]bool
	letters ['Z' + 1]bool // without G and M
}

// Check returns the first error of the values of a block.
func Check(l []api.Value) api.Errno {
	var c contents
	for _, v := range l {
		if err := c.add(v); err != api.OK {
			return err
		}
	}
	if c.groups[actionGroup] && (c.groups[motionGroup] || c.groups[machineGroup]) {
		return api.ErrConflict
	}
	return api.OK
}

// add takes up the next value, unless it has an error.
func (c *contents) add(v api.Value) api.Errno {
	switch {
	case v.Letter < 'A' || v.Letter > 'Z' || !fixed.Valid(v.N):
		return api.ErrArg
	case v.Letter == letterG || v.Letter == letterM:
		return c.addCode(v)
	case c.letters[v.Letter]:
		return api.ErrDuplicate
	}
	c.letters[v.Letter] = true
	return api.OK
}

// addCode takes up the next value, whose letter is that of a code, unless it has an error.
func (c *contents) addCode(v api.Value) api.Errno {
	code, ok := codeOf(v)
	group := Group(v.Letter, code)
	switch {
	case !ok || group == noGroup:
		return api.ErrUnknown
	case c.groups[group]:
		return api.ErrConflict
	}
	c.groups[group] = true
	return api.OK
}
