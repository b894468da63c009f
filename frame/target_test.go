package frame_test

import (
	"testing"

	"cnc/api"
	"cnc/cordic"
	"cnc/frame"
	"cnc/modal"
)

// state returns the modal state after the start and the codes of a text.
func state(text string) api.Modal {
	m, err := modal.Apply(modal.Start(), block(text))
	if err != api.OK {
		panic(text)
	}
	return m
}

var here = at(100, 200, 300)

// P12.3: Polar 15, in each plane, unit and distance.
func TestTarget(t *testing.T) {
	for _, plane := range []string{"G17", "G18", "G19"} {
		m := state(plane)
		leads(t, m, "X5", here, at(5000, 200, 300))
		leads(t, m, "Y-5", here, at(100, -5000, 300))
		leads(t, m, "Z0.001", here, at(100, 200, 1))
		leads(t, m, "X1 Y2", here, at(1000, 2000, 300))
		leads(t, m, "Z3 Y2", here, at(100, 2000, 3000))
		leads(t, m, "X5 Z-1 I1", here, at(5000, 200, -1000))
		leads(t, m, "X1 Y2 Z3 G1 F5", here, at(1000, 2000, 3000))
		leads(t, m, "X0 Y0 Z0", here, api.Vec{})
		leads(t, m, "X0.0005 Y0.0004 Z-0.0005", here, at(1, 0, 0))
		leads(t, m, "X0.1", here, here)
		m = state(plane + " G91")
		leads(t, m, "X5", here, at(5100, 200, 300))
		leads(t, m, "Y-5", here, at(100, -4800, 300))
		leads(t, m, "Z0.001", here, at(100, 200, 301))
		leads(t, m, "X1 Y2 Z3", here, at(1100, 2200, 3300))
		leads(t, m, "X0 Y0 Z0", here, here)
		leads(t, m, "X0", here, here)
		m = state(plane + " G20")
		leads(t, m, "X1 Y-2 Z0.5", here, at(25400, -50800, 12700))
		leads(t, m, "Y0.01", here, at(100, 254, 300))
		m = state(plane + " G20 G91")
		leads(t, m, "X1 Y-2 Z0.5", here, at(25500, -50600, 13000))
		leads(t, m, "Z-0.01", here, at(100, 200, 46))
	}
}

// P12.3: none of the three words.
func TestTargetWithoutWords(t *testing.T) {
	for _, codes := range []string{"", "G91", "G20", "G16", "G16 G91 G18", "G16 G19"} {
		m := state(codes)
		for _, p := range []api.Vec{{}, here, at(edge, -edge, edge)} {
			stays(t, m, "", p)
			stays(t, m, "I1", p)
			stays(t, m, "G1 F100 I5 J6 K7 R8 A1 W2", p)
		}
		aims(t, m, nil, here, here, false, api.OK)
		aims(t, m, []api.Value{{Letter: 'x', N: one}, {Letter: 'y', N: one}, {Letter: 'z', N: one}, {Letter: 0, N: least}, {Letter: 'W', N: most}, {Letter: '[', N: 5}}, here, here, false, api.OK)
		for _, n := range beyond {
			for _, p := range []api.Vec{at(n, 0, 0), at(0, n, 0), at(0, 0, n)} {
				refused(t, m, "I1", p, api.ErrArg)
				refusedValues(t, m, nil, p, api.ErrArg)
			}
		}
		// The units do not matter without a word.
		m.Units = 22
		stays(t, m, "I1", here)
	}
}

// P12.3: of each letter the first value counts.
func TestTargetWithLettersTwice(t *testing.T) {
	twice := func(m api.Modal, text string, want api.Vec) {
		t.Helper()
		aims(t, m, block(text), here, want, true, api.OK)
	}
	twice(state(""), "X1 X2", at(1000, 200, 300))
	twice(state(""), "X1 Y2 X3 Y4 Z5 Z6", at(1000, 2000, 5000))
	twice(state("G91"), "X1 X2 Y1 Y1", at(1100, 1200, 300))
	twice(state("G16"), "X1 Y0 Y90 X2", at(1000, 0, 300))
	twice(state("G16"), "Z1 Z2", at(100, 200, 1000))
	// An error of a later one does not count, but that of the first one does.
	for _, text := range []string{"X1 X2000", "X1 X999999999"} {
		twice(state(""), text, at(1000, 200, 300))
		aims(t, state(""), []api.Value{block(text)[1], block(text)[0]}, here, api.Vec{}, false, api.ErrRange)
	}
	aims(t, state(""), []api.Value{{Letter: 'Z', N: top}, {Letter: 'Z', N: top + 1}}, here, api.Vec{}, false, api.ErrRange)
	aims(t, state(""), []api.Value{{Letter: 'Z', N: top + 1}, {Letter: 'Z', N: top}}, here, api.Vec{}, false, api.ErrArg)
}

// polarCase names the letters of the two axes of a plane and of its height.
type polarCase struct{ plane, first, second, height string }

var polarCases = []polarCase{{"G17 ", "X", "Y", "Z"}, {"G18 ", "Z", "X", "Y"}, {"G19 ", "Y", "Z", "X"}}

// vector returns the vector with these coordinates of the two axes and the height.
func (c polarCase) vector(first, second, height int) api.Vec {
	switch c.first {
	case "X":
		return at(first, second, height)
	case "Z":
		return at(second, height, first)
	}
	return at(height, first, second)
}

// text returns words with a radius, an angle and perhaps more.
func (c polarCase) text(radius, angle, more string) string {
	return c.first + radius + " " + c.second + angle + " " + more
}

// P12.3: Polar 16 in each plane, with each distance, with a word of the height and without one.
func TestTargetPolar(t *testing.T) {
	for _, c := range polarCases {
		p := c.vector(100, 200, 300)
		fixed, relative := state(c.plane+"G16"), state(c.plane+"G16 G91")
		for _, x := range []struct {
			radius, angle string
			first, second int
		}{
			{"5", "0", 5000, 0}, {"5", "90", 0, 5000}, {"5", "180", -5000, 0}, {"5", "270", 0, -5000}, {"5", "360", 5000, 0},
			{"5", "-90", 0, -5000}, {"5", "450", 0, 5000}, {"5", "-630", 0, 5000}, {"5", "36090", 0, 5000}, {"5", "999999990", 0, -5000},
			{"-5", "0", -5000, 0}, {"-5", "90", 0, -5000}, {"-1", "30", -866, -500}, {"-1", "-30", -866, 500},
			{"1", "30", 866, 500}, {"1", "150", -866, 500}, {"1", "390", 866, 500}, {"1", "-330", 866, 500}, {"1", "45", 707, 707}, {"5", "53.130102", 3000, 4000},
			{"0", "0", 0, 0}, {"0", "77", 0, 0}, {"0.0005", "90", 0, 1}, {"0.0004", "90", 0, 0}, {"1000", "0.000001", 1000000, 0}, {"1000", "0.0001", 1000000, 2},
		} {
			leads(t, fixed, c.text(x.radius, x.angle, ""), p, c.vector(x.first, x.second, 300))
			leads(t, fixed, c.text(x.radius, x.angle, c.height+"7"), p, c.vector(x.first, x.second, 7000))
			leads(t, relative, c.text(x.radius, x.angle, ""), p, c.vector(100+x.first, 200+x.second, 300))
			leads(t, relative, c.text(x.radius, x.angle, c.height+"7 I1"), p, c.vector(100+x.first, 200+x.second, 7300))
		}
		// The height alone.
		leads(t, fixed, c.height+"-7", p, c.vector(100, 200, -7000))
		leads(t, relative, c.height+"-7", p, c.vector(100, 200, -6700))
	}
}

// P12.3: the units of the radius and the height do not convert the angle.
func TestTargetPolarInInches(t *testing.T) {
	for _, c := range polarCases {
		p := c.vector(100, 200, 300)
		fixed, relative := state(c.plane+"G16 G20"), state(c.plane+"G16 G20 G91")
		leads(t, fixed, c.text("1", "90", ""), p, c.vector(0, 25400, 300))
		leads(t, fixed, c.text("1", "30", c.height+"1"), p, c.vector(21997, 12700, 25400))
		leads(t, relative, c.text("-1", "90", ""), p, c.vector(100, -25200, 300))
		leads(t, relative, c.text("1", "1800", c.height+"0.1"), p, c.vector(25500, 200, 2840))
	}
}

// P12.3: the word of the angle may be any number.
func TestTargetPolarAngles(t *testing.T) {
	for _, c := range polarCases {
		p := c.vector(100, 200, 300)
		for _, n := range []int{1, -1, turn, turn - 1, top, -top, top + 1, -top - 1, 1 << 62, most, least, least + 1} {
			words := []api.Value{{Letter: int(c.second[0]), N: n}, {Letter: int(c.first[0]), N: 500 * one}}
			first, second, _ := cordic.Rotate(500000, 0, n)
			aims(t, state(c.plane+"G16"), words, p, c.vector(first, second, 300), true, api.OK)
			aims(t, state(c.plane+"G16 G91"), words, p, c.vector(100+first, 200+second, 300), true, api.OK)
		}
	}
}

// P12.3: the position before, which all other errors come after.
func TestTargetFromFarPosition(t *testing.T) {
	for _, codes := range []string{"", "G91", "G16 G18", "G16 G91 G19"} {
		for _, n := range beyond {
			for _, p := range []api.Vec{at(n, 0, 0), at(0, n, 0), at(0, 0, n)} {
				for _, text := range []string{"X1 Y2 Z3", "X1", "X2000 Y1", "X1 Y1 Z2000", "Y1 I1", "Z1048.576"} {
					refused(t, state(codes), text, p, api.ErrArg)
				}
			}
		}
	}
}

// P12.3: the errors of fixed.Length, and their order.
func TestTargetLengths(t *testing.T) {
	for _, codes := range []string{"", "G91", "G16 G17", "G16 G91 G17"} {
		m := state(codes)
		for _, text := range []string{"X1048.5765", "X-1048.576501", "X2000 Y1", "X999999999 Y5 Z1", "X1 Y90 Z1048.577", "Z-1048.577"} {
			refused(t, m, text, here, api.ErrRange)
		}
		for _, n := range []int{top + 1, -top - 1, most, least} {
			refusedValues(t, m, []api.Value{{Letter: 'X', N: n}, {Letter: 'Y', N: 1}}, here, api.ErrArg)
			refusedValues(t, m, []api.Value{{Letter: 'Z', N: n}}, here, api.ErrArg)
			// X before Y before Z, whatever their order in the block is.
			refusedValues(t, m, []api.Value{{Letter: 'X', N: n}, {Letter: 'Z', N: top}}, here, api.ErrArg)
			refusedValues(t, m, []api.Value{{Letter: 'X', N: top}, {Letter: 'Z', N: n}}, here, api.ErrRange)
		}
		m.Units = 20
		refused(t, m, "X41.3 Y1", here, api.ErrRange)
		refused(t, m, "X-41.3 Y1", here, api.ErrRange)
		for _, units := range []int{0, 19, 22, -21, most, least} {
			m.Units = units
			for _, text := range []string{"X1 Y1", "Z1", "X0 Y0 Z0", "X2000 Y1", "Z2000"} {
				refused(t, m, text, here, api.ErrArg)
			}
		}
	}
	y := []api.Value{{Letter: 'Y', N: top + 1}, {Letter: 'Z', N: top}}
	for _, codes := range []string{"", "G91", "G16 G19"} {
		m := state(codes)
		refused(t, m, "Y1048.5765 Z1", here, api.ErrRange)
		refused(t, m, "Y-1048.576501 Z1", here, api.ErrRange)
		refusedValues(t, m, y, here, api.ErrArg)
		refusedValues(t, m, append(y, api.Value{Letter: 'X', N: top}), here, api.ErrRange)
	}
	refusedValues(t, state(""), []api.Value{{Letter: 'Y', N: top}, {Letter: 'Z', N: top + 1}}, here, api.ErrRange)
}

// P12.3: with Polar 16 the word of the angle has no error of fixed.Length, but the two others do, before ErrMissing.
func TestTargetPolarLengths(t *testing.T) {
	for _, c := range polarCases {
		for _, distance := range []string{"G90", "G91"} {
			m := state(c.plane + "G16 " + distance)
			word := func(letter string, n int) api.Value { return api.Value{Letter: int(letter[0]), N: n} }
			for _, n := range []int{top, top + 1, most, least} {
				want := api.ErrRange
				if n != top {
					want = api.ErrArg
				}
				angle, radius, height := word(c.second, n), word(c.first, n), word(c.height, n)
				refusedValues(t, m, []api.Value{angle}, here, api.ErrMissing)
				refusedValues(t, m, []api.Value{angle, word(c.height, one)}, here, api.ErrMissing)
				refusedValues(t, m, []api.Value{radius}, here, want)
				refusedValues(t, m, []api.Value{radius, word(c.second, one)}, here, want)
				refusedValues(t, m, []api.Value{height}, here, want)
				refusedValues(t, m, []api.Value{height, word(c.second, one)}, here, want)
				refusedValues(t, m, []api.Value{height, angle}, here, want)
				refusedValues(t, m, []api.Value{height, word(c.first, one)}, here, want)
				refusedValues(t, m, []api.Value{angle, radius, height}, here, want)
			}
			m.Units = 22
			refused(t, m, c.second+"1", here, api.ErrMissing)
			refused(t, m, c.first+"1", here, api.ErrArg)
			refused(t, m, c.second+"1 "+c.height+"1", here, api.ErrArg)
			refused(t, m, c.second+"1 "+c.first+"1", here, api.ErrArg)
		}
	}
}

// P12.3: exactly one of the two words of the plane, which comes before ErrRange.
func TestTargetPolarMissing(t *testing.T) {
	for _, c := range polarCases {
		far := at(edge, edge, edge)
		for _, distance := range []string{"G90", "G91"} {
			m := state(c.plane + "G16 " + distance)
			for _, text := range []string{c.first + "1", c.second + "1", c.first + "0", c.second + "0", c.first + "1 I1", c.first + "1 " + c.height + "1", c.second + "90 " + c.height + "1", c.first + "1048.576"} {
				refused(t, m, text, here, api.ErrMissing)
				refused(t, m, text, far, api.ErrMissing)
				refused(t, m, text+" J5 G1", at(edge, 0, -edge), api.ErrMissing)
			}
		}
	}
	// Twice the same word is not both.
	aims(t, state("G16"), block("X1 X90"), here, api.Vec{}, false, api.ErrMissing)
	aims(t, state("G16"), block("Y1 Y90 Z1"), here, api.Vec{}, false, api.ErrMissing)
}

// P12.3: a result at the end of the coordinates and behind it.
func TestTargetRange(t *testing.T) {
	for _, text := range []string{"X1048.576 Y-1048.576 Z1048.576", "X1048.576499 Y-1048.5765 Z1048.5764"} {
		leads(t, state(""), text, here, at(edge, -edge, edge))
		leads(t, state("G91"), text, api.Vec{}, at(edge, -edge, edge))
	}
	m := state("G91")
	for _, letter := range []string{"X", "Y", "Z"} {
		both := []api.Vec{at(edge-1, edge-1, edge-1), at(1-edge, 1-edge, 1-edge)}
		for i, sign := range []string{"", "-"} {
			aimed, _, _ := frame.Target(m, block(letter+sign+"0.001"), both[i])
			if apart(aimed, both[i]) != 1 {
				t.Errorf("%s%s0.001 leads from %v to %v", letter, sign, both[i], aimed)
			}
			refused(t, m, letter+sign+"0.002", both[i], api.ErrRange)
			refused(t, m, letter+sign+"1048.576", both[i], api.ErrRange)
			refused(t, m, letter+sign+"0.002 I1", both[i], api.ErrRange)
		}
	}
	leads(t, m, "X-1048.576 Y-1048.576 Z-1048.576", at(edge, edge, edge), api.Vec{})
	leads(t, m, "X-1048.576 Y0", at(edge, edge, edge), at(0, edge, edge))
}

// P12.3
func TestTargetPolarRange(t *testing.T) {
	for _, c := range polarCases {
		fixed, relative := state(c.plane+"G16"), state(c.plane+"G16 G91")
		leads(t, fixed, c.text("1048.576", "0", ""), here, c.vector(edge, 0, flatHeight(c)))
		leads(t, fixed, c.text("1048.576", "-90", c.height+"-1048.576"), here, c.vector(0, -edge, -edge))
		leads(t, relative, c.text("0.001", "0", ""), c.vector(edge-1, edge, 0), c.vector(edge, edge, 0))
		refused(t, relative, c.text("0.002", "0", ""), c.vector(edge-1, 0, 0), api.ErrRange)
		refused(t, relative, c.text("0.002", "90", ""), c.vector(0, edge-1, 0), api.ErrRange)
		refused(t, relative, c.text("-0.002", "0", ""), c.vector(1-edge, 0, 0), api.ErrRange)
		refused(t, relative, c.text("1048.576", "45", ""), c.vector(edge, edge, 0), api.ErrRange)
		refused(t, relative, c.text("0", "0", c.height+"0.002"), c.vector(0, 0, edge-1), api.ErrRange)
		refused(t, relative, c.height+"0.002", c.vector(0, 0, edge-1), api.ErrRange)
		leads(t, relative, c.text("1048.576", "135", ""), c.vector(edge, -edge, 5), c.vector(307121, -307121, 5))
	}
}

// flatHeight returns the height of here in the plane of c.
func flatHeight(c polarCase) int {
	return map[string]int{"X": here.X, "Y": here.Y, "Z": here.Z}[c.height]
}

// R1: no call panics, whatever the state, the values and the position are.
func TestTargetWithAnything(t *testing.T) {
	r := newRandom()
	any := []int{0, 1, -1, 15, 16, 17, 18, 19, 20, 21, 90, 91, one, edge, edge + 1, top, top + 1, 1 << 62, most, least}
	draw := func() int { return any[r.IntN(len(any))] }
	for range 20000 {
		m := api.Modal{Plane: draw(), Distance: draw(), Units: draw(), Polar: draw()}
		var l []api.Value
		for range r.IntN(5) {
			l = append(l, api.Value{Letter: []int{'X', 'Y', 'Z', draw()}[r.IntN(4)], N: draw()})
		}
		frame.Target(m, l, at(draw(), draw(), draw()))
	}
}
