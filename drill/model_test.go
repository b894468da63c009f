package drill_test

import (
	"slices"
	"strings"
	"testing"

	"cnc/api"
	"cnc/drill"
)

// bodies are the bodies of the cycles without pecks by the words of P14.2: B is the bottom, A the retract plane, E the return height; t has the other direction of the spindle, and S0 stops it.
var bodies = map[int]string{
	81: "LB RE",
	82: "LB D RE",
	85: "LB LA RE",
	89: "LB D LA RE",
	86: "LB D S0 RE S",
	74: "TB tA RE",
	84: "TB tA RE",
}

func within(v api.Vec) bool {
	return !slices.ContainsFunc(components(&v), func(n *int) bool { return outside(*n) })
}

func outside(n int) bool { return n < -1048576 || n > 1048576 }

// modelCheck is Check by the words of P14.1: the first error of which one of the reasons applies.
func modelCheck(c api.Drill) api.Errno {
	pecks := c.Code == 73 || c.Code == 83
	for _, reason := range []struct {
		err     api.Errno
		applies bool
	}{
		{api.ErrUnknown, !slices.Contains([]int{73, 74, 81, 82, 83, 84, 85, 86, 89}, c.Code)},
		{api.ErrArg, c.Plane != 17 && c.Plane != 18 && c.Plane != 19},
		{api.ErrArg, !within(c.From) || !within(c.At)},
		{api.ErrArg, outside(c.Retract) || outside(c.Bottom) || outside(c.Initial)},
		{api.ErrArg, c.Return != 98 && c.Return != 99},
		{api.ErrArg, c.Dwell < 0 || c.Dwell > 60000},
		{api.ErrArg, c.Spindle != 3 && c.Spindle != 4 && c.Spindle != 5},
		{api.ErrArg, c.Speed < 0 || c.Speed > 30000},
		{api.ErrArg, c.Bottom >= c.Retract},
		{api.ErrMissing, pecks && c.Peck < 1},
		{api.ErrState, c.Code == 74 && c.Spindle != 4 || c.Code == 84 && c.Spindle != 3 || c.Code == 86 && c.Spindle == 5},
	} {
		if reason.applies {
			return reason.err
		}
	}
	if pecks && len(ends(c)) > 1000 {
		return api.ErrLimit
	}
	return api.OK
}

// ends returns the heights at which the pecks end, or 1,001 of them if there are more. It goes down peck by peck.
func ends(c api.Drill) []int {
	var list []int
	for h := c.Retract; h > c.Bottom && len(list) <= 1000; {
		h -= min(c.Peck, h-c.Bottom)
		list = append(list, h)
	}
	return list
}

// modelHeights is Heights of a cycle without an error.
func modelHeights(c api.Drill) (int, int) {
	height, pecks := c.Retract, 1
	if c.Return == 98 && c.Initial > c.Retract {
		height = c.Initial
	}
	if c.Code == 73 || c.Code == 83 {
		pecks = len(ends(c))
	}
	return height, pecks
}

// modelExpand is Expand of a cycle without an error, by the words of P14.2.
func modelExpand(c api.Drill) []api.Item {
	over, height := flat(c.Plane, c.From)
	above, _ := flat(c.Plane, c.At)
	var list []api.Item
	move := func(kind int, p api.Pt, h, n int) {
		list = append(list, api.Item{Kind: kind, To: solid(c.Plane, p, h), N: n})
	}
	if height < c.Retract {
		move(1, over, c.Retract, 0)
		height = c.Retract
	}
	move(1, above, height, 0)
	move(1, above, c.Retract, 0)
	end, _ := modelHeights(c)
	if _, ok := bodies[c.Code]; !ok {
		heights := ends(c)
		for i, h := range heights {
			if i > 0 && c.Code == 83 {
				move(1, above, c.Retract, 0)
			}
			if i > 0 {
				move(1, above, heights[i-1]+min(200, c.Peck), 0)
			}
			move(2, above, h, 0)
		}
		move(1, above, end, 0)
		return list
	}
	for _, s := range strings.Fields(bodies[c.Code]) {
		h := map[string]int{"B": c.Bottom, "A": c.Retract, "E": end}[s[1:]]
		switch s[0] {
		case 'R':
			move(1, above, h, 0)
		case 'L':
			move(2, above, h, 0)
		case 'T':
			move(6, above, h, c.Spindle)
		case 't':
			move(6, above, h, 7-c.Spindle)
		case 'D':
			list = append(list, api.Item{Kind: 7, N: c.Dwell})
		case 'S':
			list = append(list, spindleStep(c, s == "S0"))
		}
	}
	return list
}

func spindleStep(c api.Drill, stop bool) api.Item {
	if stop {
		return api.Item{Kind: 8, N: 5}
	}
	return api.Item{Kind: 8, N: c.Spindle, Speed: c.Speed}
}

// likeModel fails the test unless a cycle has the error, or the steps, of the model, and returns the error.
func likeModel(t *testing.T, c api.Drill) api.Errno {
	t.Helper()
	err := modelCheck(c)
	if err != api.OK {
		refused(t, c, err)
		return err
	}
	height, pecks := modelHeights(c)
	expands(t, c, modelExpand(c), height, pecks)
	return err
}

// P14.1, P14.2: all low heights, pecks and codes of the spindle.
func TestDrillIsThatOfTheModelForShortHoles(t *testing.T) {
	low := []int{-2, -1, 0, 1, 2}
	i := 0
	for _, code := range append([]int{80, 87}, cycles...) {
		for _, retract := range low {
			for _, bottom := range []int{-4, -3, -1, 0, 2} {
				for _, initial := range low {
					for _, height := range low {
						for peck := range 8 {
							c := valid(code, planes[i%3])
							c.Retract, c.Bottom, c.Initial, c.Peck = retract, bottom, initial, peck-1
							c.Return, c.Spindle = 98+i/3%2, 3+i/6%3
							likeModel(t, from(c, height))
							i++
						}
					}
				}
			}
		}
	}
}

// P14.1, P14.2
func TestDrillIsThatOfTheModel(t *testing.T) {
	r := newRandom()
	done := map[api.Errno]int{}
	for range 30000 {
		done[likeModel(t, r.drill())]++
	}
	for range 30000 {
		done[likeModel(t, r.spoiled())]++
	}
	for _, err := range []api.Errno{api.OK, api.ErrUnknown, api.ErrArg, api.ErrMissing, api.ErrState, api.ErrLimit} {
		if done[err] < 400 {
			t.Errorf("only %d cycles with the error %d", done[err], err)
		}
	}
}

// spoiled returns a cycle with up to two fields that are, or may be, wrong.
func (r random) spoiled() api.Drill {
	c := r.drill()
	for range 1 + r.IntN(2) {
		switch r.IntN(10) {
		case 0:
			c.Code = r.of(noCycles)
		case 1:
			c.Plane = r.of(noPlanes)
		case 2:
			*components(&c.From)[r.IntN(3)] = r.of(beyond)
		case 3:
			*components(&c.At)[r.IntN(3)] = r.of(beyond)
		case 4:
			*heights(&c)[r.IntN(3)] = r.of(beyond)
		case 5:
			c.Return = r.of(noReturns)
		case 6:
			c.Dwell = r.of(noDwells)
		case 7:
			c.Speed = r.of(noSpeeds)
		case 8:
			c.Code, c.Peck = r.of(pecking), r.of(noPecks)
		case 9:
			c.Spindle = r.of(append([]int{3, 4, 5}, noSpindles...))
		}
	}
	return c
}

// Consequences, for all cycles that are expanded.
func TestDrillEndsAtTheReturnHeight(t *testing.T) {
	r := newRandom()
	done := map[int]int{}
	for range 30000 {
		c := r.drill()
		l, err := drill.Expand(c)
		if err != api.OK {
			continue
		}
		done[c.Code]++
		height, _, _ := drill.Heights(c)
		if want := max(c.Retract, c.Initial); c.Return == 98 && height != want || c.Return == 99 && height != c.Retract {
			t.Fatalf("Heights(%+v) = %d, retract plane %d, initial plane %d", c, height, c.Retract, c.Initial)
		}
		motions := slices.DeleteFunc(l, func(it api.Item) bool {
			return it.Kind != api.ItemRapid && it.Kind != api.ItemLine && it.Kind != api.ItemTap
		})
		over, _ := flat(c.Plane, c.At)
		if last := motions[len(motions)-1].To; last != solid(c.Plane, over, height) {
			t.Fatalf("the last motion of %+v ends at %v, not at the height %d", c, last, height)
		}
		deepest := edge
		for _, it := range motions {
			_, h := flat(c.Plane, it.To)
			deepest = min(deepest, h)
		}
		if deepest != c.Bottom {
			t.Fatalf("the deepest motion of %+v leads to %d, want %d", c, deepest, c.Bottom)
		}
	}
	for _, code := range cycles {
		if done[code] < 1000 {
			t.Errorf("only %d cycles %d", done[code], code)
		}
	}
}
