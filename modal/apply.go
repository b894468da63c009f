package modal

import (
	"cnc/api"
	"cnc/fixed"
)

// Codes that do more than to stay in effect.
const (
	cutterOff  = 40 // G
	lengthOff  = 49 // G
	blending   = 64 // G
	changeTool = 6  // M
	mistOn     = 7  // M
	floodOn    = 8  // M
	coolantOff = 9  // M
)

// Apply returns the modal state after a block.
func Apply(m api.Modal, l []api.Value) (api.Modal, api.Errno) {
	if err := Check(l); err != api.OK {
		return api.Modal{}, err
	}
	// The words come after all codes, as they need the units of the block and replace what G49, G40 and G64 clear.
	for _, v := range l {
		if code, ok := codeOf(v); ok {
			m = withCode(m, v.Letter, code)
		}
	}
	m, err := withWords(m, l)
	if err != api.OK {
		return api.Modal{}, err
	}
	if Has(l, letterM, changeTool) {
		m.Loaded = m.Tool
	}
	return m, api.OK
}

// withCode returns a modal state after a code of a letter.
func withCode(m api.Modal, letter, code int) api.Modal {
	switch Group(letter, code) {
	case motionGroup:
		m.Motion = code
	case planeGroup:
		m.Plane = code
	case distanceGroup:
		m.Distance = code
	case unitsGroup:
		m.Units = code
	case feedingGroup:
		m.Feeding = code
	case cutterGroup:
		m.Cutter = code
		if code == cutterOff {
			m.D = 0
		}
	case lengthGroup:
		m.Length = code
		if code == lengthOff {
			m.H = 0
		}
	case returnGroup:
		m.Return = code
	case systemGroup:
		m.System = code
	case pathGroup:
		m.Path = code
		m.Blend = 0
	case polarGroup:
		m.Polar = code
	case turningGroup:
		m.Turning = code
	case spindleGroup:
		m.Spindle = code
	case coolantGroup:
		m = withCoolant(m, code)
	}
	return m
}

// withCoolant returns a modal state after a code of the coolant.
func withCoolant(m api.Modal, code int) api.Modal {
	switch code {
	case mistOn:
		m.Mist = true
	case floodOn:
		m.Flood = true
	case coolantOff:
		m.Mist, m.Flood = false, false
	}
	return m
}

// withWords returns a modal state, which has the codes of a block, after the words of the block.
func withWords(m api.Modal, l []api.Value) (api.Modal, api.Errno) {
	for _, with := range []func(api.Modal, []api.Value) (api.Modal, api.Errno){withFeed, withNumbers, withBlend} {
		var err api.Errno
		if m, err = with(m, l); err != api.OK {
			return api.Modal{}, err
		}
	}
	return m, api.OK
}

// withFeed returns a modal state after the word F.
func withFeed(m api.Modal, l []api.Value) (api.Modal, api.Errno) {
	n, ok := Find(l, 'F')
	if !ok {
		return m, api.OK
	}
	feed, err := Rate(n, m.Units)
	m.Feed = feed
	return m, err
}

// withNumbers returns a modal state after the words that are integers.
func withNumbers(m api.Modal, l []api.Value) (api.Modal, api.Errno) {
	for _, word := range []struct {
		letter, most int
		field        *int
	}{
		{'S', api.MaxSpindle, &m.Speed},
		{'T', api.MaxTools, &m.Tool},
		{'H', api.MaxTools, &m.H},
		{'D', api.MaxTools, &m.D},
	} {
		n, ok := Find(l, word.letter)
		if !ok {
			continue
		}
		whole, ok := fixed.Whole(n)
		if !ok || whole < 0 || whole > word.most {
			return m, api.ErrArg
		}
		*word.field = whole
	}
	return m, api.OK
}

// withBlend returns a modal state after the word P, which belongs to G64.
func withBlend(m api.Modal, l []api.Value) (api.Modal, api.Errno) {
	n, ok := Find(l, 'P')
	if !ok || !Has(l, letterG, blending) {
		return m, api.OK
	}
	tolerance, err := fixed.Length(n, m.Units)
	if err == api.OK && (tolerance < 0 || tolerance > api.MaxBlend) {
		err = api.ErrRange
	}
	m.Blend = tolerance
	return m, err
}
