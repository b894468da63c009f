package drill_test

import (
	"slices"
	"strconv"
	"strings"
	"testing"

	"cnc/api"
	"cnc/drill"
)

// bodyOf returns the body of a cycle of valid with another return height.
func bodyOf(code, end int) string {
	text := map[int]string{
		73: "L-1500 R-1300 L-4000 R-3800 L-5000 END",
		74: "T-5000,4 T1000,3 END",
		81: "L-5000 END",
		82: "L-5000 D30 END",
		83: "L-1500 R1000 R-1300 L-4000 R1000 R-3800 L-5000 END",
		84: "T-5000,3 T1000,4 END",
		85: "L-5000 L1000 END",
		86: "L-5000 D30 S5,0 END S3,800",
		89: "L-5000 D30 L1000 END",
	}[code]
	return strings.Replace(text, "END", "R"+strconv.Itoa(end), 1)
}

// pecksOf returns the number of pecks of a cycle of valid.
func pecksOf(code int) int {
	if code == 73 || code == 83 {
		return 3
	}
	return 1
}

// P14.2: the way to the retract plane from every height, and the return height, in every plane.
func TestExpand(t *testing.T) {
	for _, c := range all() {
		for _, x := range []struct {
			height int
			begin  string
		}{
			{-edge, "r1000 R1000 R1000 "}, {-5001, "r1000 R1000 R1000 "}, {-5000, "r1000 R1000 R1000 "}, {0, "r1000 R1000 R1000 "}, {999, "r1000 R1000 R1000 "},
			{1000, "R1000 R1000 "},
			{1001, "R1001 R1000 "}, {2000, "R2000 R1000 "}, {3000, "R3000 R1000 "}, {7000, "R7000 R1000 "}, {edge, "R1048576 R1000 "},
		} {
			for _, initial := range []int{-edge, -5000, 0, 999, 1000, 1001, 3000, edge} {
				c := from(c, x.height)
				c.Initial = initial
				c.Return = 98
				end := max(initial, 1000)
				leads(t, c, x.begin+bodyOf(c.Code, end), end, pecksOf(c.Code))
				c.Return = 99
				leads(t, c, x.begin+bodyOf(c.Code, 1000), 1000, pecksOf(c.Code))
			}
		}
	}
}

// P14.2: the steps as they are written, without the help of other tests.
func TestExpandInThePlanes(t *testing.T) {
	c := api.Drill{Code: 82, Plane: api.PlaneXY, From: at(1, 2, 3), At: at(4, 5, 6), Retract: 40, Bottom: -50, Initial: 60, Dwell: 7, Return: 98, Spindle: 5}
	expands(t, c, []api.Item{
		{Kind: api.ItemRapid, To: at(1, 2, 40)}, {Kind: api.ItemRapid, To: at(4, 5, 40)}, {Kind: api.ItemRapid, To: at(4, 5, 40)},
		{Kind: api.ItemLine, To: at(4, 5, -50)}, {Kind: api.ItemDwell, N: 7}, {Kind: api.ItemRapid, To: at(4, 5, 60)},
	}, 60, 1)
	c = api.Drill{Code: 84, Plane: api.PlaneZX, From: at(1, 2, 3), At: at(4, 5, 6), Retract: 40, Bottom: -50, Initial: 60, Return: 98, Spindle: 3, Speed: 9}
	expands(t, c, []api.Item{
		{Kind: api.ItemRapid, To: at(1, 40, 3)}, {Kind: api.ItemRapid, To: at(4, 40, 6)}, {Kind: api.ItemRapid, To: at(4, 40, 6)},
		{Kind: api.ItemTap, To: at(4, -50, 6), N: 3}, {Kind: api.ItemTap, To: at(4, 40, 6), N: 4}, {Kind: api.ItemRapid, To: at(4, 60, 6)},
	}, 60, 1)
	c = api.Drill{Code: 86, Plane: api.PlaneYZ, From: at(1, 2, 3), At: at(4, 5, 6), Retract: 0, Bottom: -50, Initial: 60, Dwell: 7, Return: 99, Spindle: 4, Speed: 9}
	expands(t, c, []api.Item{
		{Kind: api.ItemRapid, To: at(1, 5, 6)}, {Kind: api.ItemRapid, To: at(0, 5, 6)},
		{Kind: api.ItemLine, To: at(-50, 5, 6)}, {Kind: api.ItemDwell, N: 7}, {Kind: api.ItemSpindle, N: 5}, {Kind: api.ItemRapid, To: at(0, 5, 6)}, {Kind: api.ItemSpindle, N: 4, Speed: 9},
	}, 0, 1)
}

// P14.2: the example of the chapter.
func TestExpandOfTheExample(t *testing.T) {
	c := api.Drill{Code: 81, Plane: api.PlaneXY, From: at(0, 0, 2000), Retract: 1000, Bottom: -5000, Return: 99, Spindle: 5}
	expands(t, c, []api.Item{
		{Kind: api.ItemRapid, To: at(0, 0, 2000)}, {Kind: api.ItemRapid, To: at(0, 0, 1000)}, {Kind: api.ItemLine, To: at(0, 0, -5000)}, {Kind: api.ItemRapid, To: at(0, 0, 1000)},
	}, 1000, 1)
}

// P14.2: a cycle at the position before it. The second step is there although it does not move.
func TestExpandOverThePlaceAlready(t *testing.T) {
	for _, c := range all() {
		c.From = solid(c.Plane, place, 1000)
		leads(t, c, "R1000 R1000 "+bodyOf(c.Code, 1000), 1000, pecksOf(c.Code))
		c.From = solid(c.Plane, place, 2000)
		leads(t, c, "R2000 R1000 "+bodyOf(c.Code, 1000), 1000, pecksOf(c.Code))
		// The step to the retract plane leads to the place.
		c.From = solid(c.Plane, place, -2000)
		leads(t, c, "R1000 R1000 R1000 "+bodyOf(c.Code, 1000), 1000, pecksOf(c.Code))
	}
}

// P14.2: the height of the place changes nothing.
func TestExpandIgnoresTheHeightOfThePlace(t *testing.T) {
	for _, c := range all() {
		for _, height := range []int{0, -edge, -6000, 1000, 5000, edge} {
			c.At = solid(c.Plane, place, height)
			leads(t, c, "R2000 R1000 "+bodyOf(c.Code, 1000), 1000, pecksOf(c.Code))
		}
	}
}

// P14.2: positions at the end of the coordinates.
func TestExpandAtTheEndOfTheCoordinates(t *testing.T) {
	for _, plane := range planes {
		c := valid(81, plane)
		p, q := api.Pt{U: edge, W: -edge}, api.Pt{U: -edge, W: edge}
		c.From, c.At = solid(plane, p, -edge), solid(plane, q, -edge)
		c.Retract, c.Bottom, c.Initial, c.Return = edge-1, -edge, edge, 98
		expands(t, c, []api.Item{
			{Kind: api.ItemRapid, To: solid(plane, p, edge-1)}, {Kind: api.ItemRapid, To: solid(plane, q, edge-1)}, {Kind: api.ItemRapid, To: solid(plane, q, edge-1)},
			{Kind: api.ItemLine, To: solid(plane, q, -edge)}, {Kind: api.ItemRapid, To: solid(plane, q, edge)},
		}, edge, 1)
	}
}

// P14.2: the heights at the end of their range, and a hole of one micrometer.
func TestExpandOfTheHeights(t *testing.T) {
	for _, plane := range planes {
		c := from(valid(85, plane), 0)
		c.Return = 98
		c.Retract, c.Bottom, c.Initial = edge, -edge, -edge
		leads(t, c, "r1048576 R1048576 R1048576 L-1048576 L1048576 R1048576", edge, 1)
		c.Retract, c.Bottom, c.Initial = edge, edge-1, edge
		leads(t, c, "r1048576 R1048576 R1048576 L1048575 L1048576 R1048576", edge, 1)
		c.Retract, c.Bottom, c.Initial = 1-edge, -edge, edge
		leads(t, c, "R0 R-1048575 L-1048576 L-1048575 R1048576", edge, 1)
		c.Retract, c.Bottom, c.Initial = 0, -1, 0
		leads(t, c, "R0 R0 L-1 L0 R0", 0, 1)
		c.Retract, c.Bottom, c.Initial = 5, 4, 5
		leads(t, c, "r5 R5 R5 L4 L5 R5", 5, 1)
	}
}

// P14.2: the dwell of the cycles that have one, which is there if it is 0, too.
func TestExpandOfTheDwell(t *testing.T) {
	for _, n := range []int{0, 1, 30, api.MaxDwell - 1, api.MaxDwell} {
		for code, body := range map[int]string{82: "L-5000 D% R1000", 89: "L-5000 D% L1000 R1000", 86: "L-5000 D% S5,0 R1000 S3,800"} {
			c := valid(code, api.PlaneXY)
			c.Dwell = n
			leads(t, c, "R2000 R1000 "+strings.Replace(body, "%", strconv.Itoa(n), 1), 1000, 1)
		}
		for _, code := range []int{73, 74, 81, 83, 84, 85} {
			c := valid(code, api.PlaneXY)
			c.Dwell = n
			leads(t, c, "R2000 R1000 "+bodyOf(code, 1000), 1000, pecksOf(code))
		}
	}
}

// P14.2: the spindle and its speed, which only 86 sets again.
func TestExpandOfTheSpindle(t *testing.T) {
	for _, speed := range []int{0, 1, 800, api.MaxSpindle - 1, api.MaxSpindle} {
		for _, code := range []int{3, 4} {
			c := valid(86, api.PlaneZX)
			c.Spindle, c.Speed = code, speed
			leads(t, c, "R2000 R1000 L-5000 D30 S5,0 R1000 S"+strconv.Itoa(code)+","+strconv.Itoa(speed), 1000, 1)
		}
		for _, code := range cycles {
			if code != 86 {
				c := valid(code, api.PlaneZX)
				c.Speed = speed
				leads(t, c, "R2000 R1000 "+bodyOf(code, 1000), 1000, pecksOf(code))
			}
		}
	}
	for _, code := range []int{73, 81, 82, 83, 85, 89} {
		for spindle := 3; spindle <= 5; spindle++ {
			c := valid(code, api.PlaneYZ)
			c.Spindle = spindle
			leads(t, c, "R2000 R1000 "+bodyOf(code, 1000), 1000, pecksOf(code))
		}
	}
}

// P14.2: depths that Peck divides, and depths that it does not.
func TestExpandOfThePecks(t *testing.T) {
	for _, x := range []struct {
		bottom, peck, pecks int
		short, out          string
	}{
		// Without a second peck nothing withdraws between.
		{0, 1000, 1, "L0", "L0"},
		{0, 1001, 1, "L0", "L0"},
		{0, most, 1, "L0", "L0"},
		{999, 1, 1, "L999", "L999"},
		{999, most, 1, "L999", "L999"},
		{0, 999, 2, "L1 R201 L0", "L1 R1000 R201 L0"},
		{0, 500, 2, "L500 R700 L0", "L500 R1000 R700 L0"},
		{0, 501, 2, "L499 R699 L0", "L499 R1000 R699 L0"},
		{0, 499, 3, "L501 R701 L2 R202 L0", "L501 R1000 R701 L2 R1000 R202 L0"},
		{998, 1, 2, "L999 R1000 L998", "L999 R1000 R1000 L998"},
		{-500, 500, 3, "L500 R700 L0 R200 L-500", "L500 R1000 R700 L0 R1000 R200 L-500"},
		{-501, 500, 4, "L500 R700 L0 R200 L-500 R-300 L-501", "L500 R1000 R700 L0 R1000 R200 L-500 R1000 R-300 L-501"},
		{-499, 500, 3, "L500 R700 L0 R200 L-499", "L500 R1000 R700 L0 R1000 R200 L-499"},
		// About api.PeckGap, 200.
		{500, 200, 3, "L800 R1000 L600 R800 L500", "L800 R1000 R1000 L600 R1000 R800 L500"},
		{500, 201, 3, "L799 R999 L598 R798 L500", "L799 R1000 R999 L598 R1000 R798 L500"},
		{500, 199, 3, "L801 R1000 L602 R801 L500", "L801 R1000 R1000 L602 R1000 R801 L500"},
		{700, 100, 3, "L900 R1000 L800 R900 L700", "L900 R1000 R1000 L800 R1000 R900 L700"},
		{995, 2, 3, "L998 R1000 L996 R998 L995", "L998 R1000 R1000 L996 R1000 R998 L995"},
	} {
		for _, plane := range planes {
			for code, body := range map[int]string{73: x.short, 83: x.out} {
				c := valid(code, plane)
				c.Bottom, c.Peck = x.bottom, x.peck
				leads(t, c, "R2000 R1000 "+body+" R1000", 1000, x.pecks)
				c.Return = 98
				leads(t, from(c, 0), "r1000 R1000 R1000 "+body+" R3000", 3000, x.pecks)
			}
		}
	}
}

// P14.2: as many pecks as there may be.
func TestExpandOfAThousandPecks(t *testing.T) {
	for _, peck := range []int{1, 7, 200, 201, 2097} {
		for _, code := range pecking {
			c := valid(code, api.PlaneYZ)
			c.Retract, c.Bottom, c.Peck = edge, edge-1000*peck, peck
			text := "r1048576 R1048576 R1048576 "
			for k := 1; k < 1000; k++ {
				h := edge - k*peck
				text += "L" + strconv.Itoa(h)
				if code == 83 {
					text += " R1048576"
				}
				text += " R" + strconv.Itoa(h+min(peck, 200)) + " "
			}
			leads(t, c, text+"L"+strconv.Itoa(edge-1000*peck)+" R1048576", edge, 1000)
		}
	}
}

// P14.2: Peck is not used where nothing is pecked.
func TestExpandIgnoresPeck(t *testing.T) {
	for _, code := range notPecking {
		for _, peck := range append([]int{1, 2, gap, 5999, 6000, 6001, most}, noPecks...) {
			c := valid(code, api.PlaneXY)
			c.Peck = peck
			leads(t, c, "R2000 R1000 "+bodyOf(code, 1000), 1000, 1)
		}
	}
}

// R2: neither a later call nor a change of its steps is seen in earlier steps.
func TestExpandReturnsNewSteps(t *testing.T) {
	first, _ := drill.Expand(valid(83, api.PlaneXY))
	before := slices.Clone(first)
	second, _ := drill.Expand(valid(83, api.PlaneXY))
	for i := range second {
		second[i] = api.Item{}
	}
	_ = append(second[:1], before...)
	drill.Expand(valid(86, api.PlaneZX))
	if !slices.Equal(first, before) {
		t.Errorf("the steps became %v, want %v", first, before)
	}
}
