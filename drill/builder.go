package drill

import (
	"cnc/api"
	"cnc/vec"
)

// builder collects the steps of a cycle. Its methods return the builder itself, so that a row of calls reads like the steps.
type builder struct {
	plane int
	place api.Pt // the position in the plane of the next motions
	items []api.Item
}

// approach leads over the place of a cycle, and down to the retract plane.
func (b *builder) approach(c api.Drill) *builder {
	_, height, _ := vec.Flat(c.Plane, c.From)
	if height < c.Retract {
		b.over(c.From).rapid(c.Retract)
	}
	return b.over(c.At).rapid(max(height, c.Retract)).rapid(c.Retract)
}

// body leads from the retract plane to the bottom, and to the return height.
func (b *builder) body(c api.Drill) *builder {
	end := returnHeight(c)
	switch c.Code {
	case hole:
		b.line(c.Bottom).rapid(end)
	case holeDwell:
		b.line(c.Bottom).dwell(c.Dwell).rapid(end)
	case bore:
		b.line(c.Bottom).line(c.Retract).rapid(end)
	case boreDwell:
		b.line(c.Bottom).dwell(c.Dwell).line(c.Retract).rapid(end)
	case boreStop:
		b.line(c.Bottom).dwell(c.Dwell).spindle(standing, 0).rapid(end).spindle(c.Spindle, c.Speed)
	case tapLeft, tapRight:
		b.tap(c.Bottom, c.Spindle).tap(c.Retract, opposite(c.Spindle)).rapid(end)
	case peckShort, peckOut:
		b.pecks(c).rapid(end)
	}
	return b
}

// pecks leads to the bottom peck by peck.
func (b *builder) pecks(c api.Drill) *builder {
	gap := min(api.PeckGap, c.Peck)
	// All pecks but the last one end above the bottom.
	for k := 1; k < pecks(c); k++ {
		height := c.Retract - k*c.Peck
		b.line(height)
		if c.Code == peckOut {
			b.rapid(c.Retract)
		}
		b.rapid(height + gap)
	}
	return b.line(c.Bottom)
}

// over sets the position in the plane of the next motions to that of v.
func (b *builder) over(v api.Vec) *builder {
	b.place, _, _ = vec.Flat(b.plane, v)
	return b
}

func (b *builder) rapid(height int) *builder {
	return b.add(api.Item{Kind: api.ItemRapid, To: b.at(height)})
}

func (b *builder) line(height int) *builder {
	return b.add(api.Item{Kind: api.ItemLine, To: b.at(height)})
}

func (b *builder) tap(height, spindle int) *builder {
	return b.add(api.Item{Kind: api.ItemTap, To: b.at(height), N: spindle})
}

func (b *builder) dwell(cycles int) *builder {
	return b.add(api.Item{Kind: api.ItemDwell, N: cycles})
}

func (b *builder) spindle(code, speed int) *builder {
	return b.add(api.Item{Kind: api.ItemSpindle, N: code, Speed: speed})
}

func (b *builder) add(it api.Item) *builder {
	b.items = append(b.items, it)
	return b
}

// at returns the point at a height over the position of the next motions.
func (b *builder) at(height int) api.Vec {
	v, _ := vec.Solid(b.plane, b.place, height)
	return v
}

// opposite returns the other code of a spindle that turns.
func opposite(spindle int) int {
	return clockwise + counterclockwise - spindle
}
