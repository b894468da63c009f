package drill_test

import (
	"slices"
	"testing"

	"cnc/api"
	"cnc/drill"
)

// P14.1: each cycle in each plane, with each return.
func TestCheck(t *testing.T) {
	for _, c := range all() {
		for _, c.Return = range returns {
			accepted(t, c)
		}
	}
	refused(t, api.Drill{}, api.ErrUnknown)
	refused(t, api.Drill{Code: 81}, api.ErrArg)
}

// P14.1: codes that are no cycle, whatever else is wrong.
func TestCheckOfTheCode(t *testing.T) {
	for _, code := range noCycles {
		for _, c := range all() {
			c.Code = code
			refused(t, c, api.ErrUnknown)
		}
		for _, wrong := range wrongs() {
			refused(t, with(with(valid(81, api.PlaneXY), wrong), func(c *api.Drill) { c.Code = code }), api.ErrUnknown)
		}
		refused(t, api.Drill{Code: code}, api.ErrUnknown)
	}
	for code := -200; code <= 200; code++ {
		if !slices.Contains(cycles, code) {
			refused(t, with(valid(81, api.PlaneXY), func(c *api.Drill) { c.Code = code }), api.ErrUnknown)
		}
	}
}

// wrongs returns changes of a cycle, each of which leads to ErrArg.
func wrongs() []func(*api.Drill) {
	var list []func(*api.Drill)
	for _, n := range noPlanes {
		list = append(list, func(c *api.Drill) { c.Plane = n })
	}
	for _, n := range beyond {
		for i := range 3 {
			list = append(list, func(c *api.Drill) { *components(&c.From)[i] = n }, func(c *api.Drill) { *components(&c.At)[i] = n }, func(c *api.Drill) { *heights(c)[i] = n })
		}
	}
	for _, n := range noReturns {
		list = append(list, func(c *api.Drill) { c.Return = n })
	}
	for _, n := range noDwells {
		list = append(list, func(c *api.Drill) { c.Dwell = n })
	}
	for _, n := range noSpindles {
		list = append(list, func(c *api.Drill) { c.Spindle = n })
	}
	for _, n := range noSpeeds {
		list = append(list, func(c *api.Drill) { c.Speed = n })
	}
	for _, n := range []int{1000, 1001, 1002, 5000, edge} {
		list = append(list, func(c *api.Drill) { c.Bottom = n })
	}
	return list
}

// P14.1: each reason of ErrArg, with each cycle in each plane.
func TestCheckOfTheArguments(t *testing.T) {
	for _, wrong := range wrongs() {
		for _, c := range all() {
			refused(t, with(c, wrong), api.ErrArg)
			c.Return = 98
			refused(t, with(c, wrong), api.ErrArg)
		}
	}
}

// P14.1: two reasons of ErrArg at once are one error.
func TestCheckOfTwoArguments(t *testing.T) {
	for i, first := range wrongs() {
		for j, second := range wrongs() {
			c := valid(cycles[(i+j)%len(cycles)], planes[j%len(planes)])
			refused(t, with(with(c, first), second), api.ErrArg)
		}
	}
}

// P14.1: positions and heights at the end of the coordinates.
func TestCheckAtTheEndOfTheCoordinates(t *testing.T) {
	for _, base := range all() {
		for _, n := range []int{edge, -edge, edge - 1, 1 - edge} {
			for i := range 3 {
				accepted(t, with(base, func(c *api.Drill) { *components(&c.From)[i] = n }))
				accepted(t, with(base, func(c *api.Drill) { *components(&c.At)[i] = n }))
			}
			accepted(t, with(base, func(c *api.Drill) { c.Initial = n }))
		}
		deep := with(base, func(c *api.Drill) { c.Peck = 1 << 21 })
		for _, n := range []int{edge, edge - 1} {
			accepted(t, with(deep, func(c *api.Drill) { c.Retract = n }))
			accepted(t, with(deep, func(c *api.Drill) { c.Bottom = -n }))
			accepted(t, with(deep, func(c *api.Drill) { c.Retract, c.Bottom = n, -n }))
		}
		accepted(t, with(deep, func(c *api.Drill) { c.Retract, c.Bottom = edge, edge-1 }))
		accepted(t, with(deep, func(c *api.Drill) { c.Retract, c.Bottom = 1-edge, -edge }))
		// Each height behind the end, with the others on the right side of it.
		for _, n := range beyond {
			refused(t, with(deep, func(c *api.Drill) { c.Retract = max(n, -n) }), api.ErrArg)
			refused(t, with(deep, func(c *api.Drill) { c.Bottom = min(n, -n) }), api.ErrArg)
			refused(t, with(deep, func(c *api.Drill) { c.Retract, c.Bottom = edge, min(n, -n) }), api.ErrArg)
			refused(t, with(deep, func(c *api.Drill) { c.Retract, c.Bottom = max(n, -n), -edge }), api.ErrArg)
			refused(t, with(deep, func(c *api.Drill) { c.Initial = n }), api.ErrArg)
		}
		refused(t, with(deep, func(c *api.Drill) { c.Retract, c.Bottom = edge+2, edge+1 }), api.ErrArg)
		refused(t, with(deep, func(c *api.Drill) { c.Retract, c.Bottom = -edge-1, -edge-2 }), api.ErrArg)
		refused(t, with(deep, func(c *api.Drill) { c.Retract, c.Bottom = most, least }), api.ErrArg)
		refused(t, with(deep, func(c *api.Drill) { c.Retract, c.Bottom = least, most }), api.ErrArg)
		refused(t, with(deep, func(c *api.Drill) { c.Retract, c.Bottom = edge, least }), api.ErrArg)
	}
}

// P14.1: the bottom must lie below the retract plane.
func TestCheckOfTheBottom(t *testing.T) {
	for _, c := range all() {
		for _, retract := range []int{1000, 1, 0, -1, -5000, edge, -edge} {
			c.Retract = retract
			c.Bottom = retract
			refused(t, c, api.ErrArg)
			c.Bottom = retract + 1
			refused(t, c, api.ErrArg)
			if retract > -edge {
				c.Bottom = retract - 1
				accepted(t, c)
			}
		}
	}
}

// P14.1: the dwell, the speed and the spindle at the ends of their ranges, also where they are not used.
func TestCheckOfTheNumbers(t *testing.T) {
	for _, c := range all() {
		for _, n := range []int{0, 1, api.MaxDwell - 1, api.MaxDwell} {
			accepted(t, with(c, func(c *api.Drill) { c.Dwell = n }))
		}
		for _, n := range []int{0, 1, api.MaxSpindle - 1, api.MaxSpindle} {
			accepted(t, with(c, func(c *api.Drill) { c.Speed = n }))
		}
		for _, n := range []int{-1, api.MaxDwell + 1} {
			refused(t, with(c, func(c *api.Drill) { c.Dwell = n }), api.ErrArg)
		}
		for _, n := range []int{-1, api.MaxSpindle + 1} {
			refused(t, with(c, func(c *api.Drill) { c.Speed = n }), api.ErrArg)
		}
		for _, n := range []int{2, 6} {
			refused(t, with(c, func(c *api.Drill) { c.Spindle = n }), api.ErrArg)
		}
		for _, n := range []int{97, 100} {
			refused(t, with(c, func(c *api.Drill) { c.Return = n }), api.ErrArg)
		}
	}
}

// P14.1: the codes of the spindle that each cycle allows.
func TestCheckOfTheSpindle(t *testing.T) {
	allowed := map[int][]int{74: {4}, 84: {3}, 86: {3, 4}}
	for _, c := range all() {
		for c.Spindle = 3; c.Spindle <= 5; c.Spindle++ {
			if list, ok := allowed[c.Code]; ok && !slices.Contains(list, c.Spindle) {
				refused(t, c, api.ErrState)
			} else {
				accepted(t, c)
			}
		}
	}
}

// P14.1: cycles that peck without a depth of a peck.
func TestCheckOfThePeck(t *testing.T) {
	for _, peck := range noPecks {
		for _, plane := range planes {
			for _, code := range pecking {
				refused(t, with(valid(code, plane), func(c *api.Drill) { c.Peck = peck }), api.ErrMissing)
			}
			for _, code := range notPecking {
				accepted(t, with(valid(code, plane), func(c *api.Drill) { c.Peck = peck }))
			}
		}
	}
	for _, code := range pecking {
		accepted(t, with(valid(code, api.PlaneXY), func(c *api.Drill) { c.Peck, c.Bottom = 1, 999 }))
		accepted(t, with(valid(code, api.PlaneXY), func(c *api.Drill) { c.Peck = most }))
	}
}

// P14.1: 1,000 pecks and 1,001.
func TestCheckOfTheNumberOfPecks(t *testing.T) {
	for _, x := range []struct {
		depth, peck, pecks int
	}{
		{1, 1, 1}, {2, 1, 2}, {999, 1, 999}, {1000, 1, 1000}, {1001, 1, 1001}, {1002, 1, 1001}, {6000, 1, 1001},
		{1997, 2, 999}, {1998, 2, 999}, {1999, 2, 1000}, {2000, 2, 1000}, {2001, 2, 1001}, {2002, 2, 1001},
		{199999, 200, 1000}, {200000, 200, 1000}, {200001, 200, 1001},
		{2*edge - 1, 2098, 1000}, {2 * edge, 2098, 1000}, {2097000, 2097, 1000}, {2097001, 2097, 1001}, {2 * edge, 2097, 1001}, {2 * edge, 1, 1001},
		{2 * edge, 2*edge - 1, 2}, {2 * edge, 2 * edge, 1}, {2 * edge, 2*edge + 1, 1}, {2 * edge, most, 1}, {1, most, 1}, {2 * edge, most - 2*edge + 1, 1},
	} {
		for _, plane := range planes {
			for _, code := range cycles {
				c := valid(code, plane)
				c.Retract, c.Bottom, c.Peck = edge, edge-x.depth, x.peck
				isPecking := slices.Contains(pecking, code)
				if isPecking && x.pecks > 1000 {
					refused(t, c, api.ErrLimit)
					continue
				}
				want := 1
				if isPecking {
					want = x.pecks
				}
				accepted(t, c)
				if h, n, ok := drill.Heights(c); h != edge || n != want || !ok {
					t.Errorf("Heights(%+v) = %d, %d, %v, want %d, %d, true", c, h, n, ok, edge, want)
				}
			}
		}
	}
}

// P14.1: errors that apply together.
func TestCheckOrder(t *testing.T) {
	for _, wrong := range wrongs() {
		for _, code := range pecking {
			for _, peck := range noPecks {
				refused(t, with(with(valid(code, api.PlaneXY), func(c *api.Drill) { c.Peck = peck }), wrong), api.ErrArg)
			}
			// There would be too many pecks.
			refused(t, with(with(valid(code, api.PlaneXY), func(c *api.Drill) { c.Peck = 1 }), wrong), api.ErrArg)
		}
		for _, code := range []int{74, 84, 86} {
			// The spindle would be wrong for the cycle.
			refused(t, with(with(valid(code, api.PlaneXY), func(c *api.Drill) { c.Spindle = 5 }), wrong), api.ErrArg)
		}
	}
	for spindle := 3; spindle <= 5; spindle++ {
		for _, code := range pecking {
			refused(t, with(valid(code, api.PlaneZX), func(c *api.Drill) { c.Spindle, c.Peck = spindle, 0 }), api.ErrMissing)
			refused(t, with(valid(code, api.PlaneZX), func(c *api.Drill) { c.Spindle, c.Peck = spindle, 1 }), api.ErrLimit)
		}
	}
	for _, peck := range append([]int{1, 5}, noPecks...) {
		for _, code := range []int{74, 84, 86} {
			refused(t, with(valid(code, api.PlaneYZ), func(c *api.Drill) { c.Spindle, c.Peck = 5, peck }), api.ErrState)
		}
	}
}

// P14.1: the return height and the number of pecks.
func TestHeights(t *testing.T) {
	for _, c := range all() {
		for _, x := range [][2]int{{1000, -edge}, {1000, -5000}, {1000, 0}, {1000, 999}, {1000, 1000}, {1000, 1001}, {1000, edge}, {-4000, -4001}, {-4000, -4000}, {-4000, -3999}, {-4000, 0}, {edge, edge - 1}, {edge, edge}} {
			c.Retract, c.Initial, c.Peck = x[0], x[1], 1<<20
			pecks := 1
			if c.Retract == edge && slices.Contains(pecking, c.Code) {
				pecks = 2
			}
			for _, c.Return = range returns {
				want := c.Retract
				if c.Return == 98 {
					want = max(want, c.Initial)
				}
				if h, n, ok := drill.Heights(c); h != want || n != pecks || !ok {
					t.Errorf("Heights(%+v) = %d, %d, %v, want %d, %d, true", c, h, n, ok, want, pecks)
				}
			}
		}
	}
}
