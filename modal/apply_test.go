package modal_test

import (
	"slices"
	"testing"

	"cnc/api"
	"cnc/modal"
)

// fieldOf returns the field of a state that contains the code of a group, or nil if there is none.
func fieldOf(m *api.Modal, group int) *int {
	switch group {
	case 1:
		return &m.Motion
	case 2:
		return &m.Plane
	case 3:
		return &m.Distance
	case 4:
		return &m.Units
	case 5:
		return &m.Feeding
	case 6:
		return &m.Cutter
	case 7:
		return &m.Length
	case 8:
		return &m.Return
	case 9:
		return &m.System
	case 10:
		return &m.Path
	case 11:
		return &m.Polar
	case 12:
		return &m.Turning
	case 22:
		return &m.Spindle
	}
	return nil
}

// alone changes a state like a block with a single code.
func alone(m *api.Modal, c code) {
	if field := fieldOf(m, groupOf()[c]); field != nil {
		*field = c.n
	}
	switch c.String() {
	case "G61", "G64":
		m.Blend = 0
	case "G40":
		m.D = 0
	case "G49":
		m.H = 0
	case "M6":
		m.Loaded = m.Tool
	case "M7":
		m.Mist = true
	case "M8":
		m.Flood = true
	case "M9":
		m.Mist, m.Flood = false, false
	}
}

// P11.5: each code of each group, in states of all kinds.
func TestApplyEachCode(t *testing.T) {
	for _, m := range states(t) {
		applied(t, m, nil, m, api.OK)
		for _, c := range codes() {
			becomes(t, m, c.String(), func(m *api.Modal) { alone(m, c) })
		}
	}
}

// P11.5: two codes that do not contradict each other.
func TestApplyTwoCodes(t *testing.T) {
	table := groupOf()
	for _, m := range states(t) {
		for _, a := range codes() {
			for _, b := range codes() {
				if pairError(table[a], table[b]) != api.OK {
					refused(t, m, a.String()+" "+b.String(), api.ErrConflict)
					continue
				}
				becomes(t, m, a.String()+" "+b.String(), func(m *api.Modal) {
					alone(m, a)
					alone(m, b)
				})
			}
		}
	}
}

// P11.5: words that Apply does not read, whatever their values are.
func TestApplyOtherWords(t *testing.T) {
	for _, m := range states(t) {
		for letter := 'A'; letter <= 'Z'; letter++ {
			if slices.Contains([]rune("DFGHMST"), letter) {
				continue
			}
			for _, n := range []int{0, 1, -1, one / 2, 99 * one, -one, top, -top} {
				applied(t, m, value(int(letter), n), m, api.OK)
			}
		}
		becomes(t, m, "X1 Y2 Z-3 I4 Q5", func(m *api.Modal) {})
		becomes(t, m, "G1 X100000 R-0.5", func(m *api.Modal) { m.Motion = 1 })
	}
}

// P11.5: F in either unit, which are those after the block.
func TestFeed(t *testing.T) {
	for text, feed := range map[string]int{
		"F100": 100000, "F100 G21": 100000, "F100 G20": 2540000, "F0.0005": 1, "F0.000499 G20": 13, "F0.00002 G20": 1, "F60000": api.MaxFeed, "F60000.000499": api.MaxFeed, "F2362.204744 G20": api.MaxFeed, "F2362.204744": 2362205,
	} {
		m := strange()
		becomes(t, m, text, func(m *api.Modal) {
			m.Feed = feed
			if len(block(text)) == 2 {
				m.Units = block(text)[1].N / one
			}
		})
	}
	inch := after(t, "G20 F1")
	becomes(t, inch, "F100", func(m *api.Modal) { m.Feed = 2540000 })
	becomes(t, inch, "F100 G21", func(m *api.Modal) { m.Feed, m.Units = 100000, 21 })
	becomes(t, inch, "F60000 G21", func(m *api.Modal) { m.Feed, m.Units = api.MaxFeed, 21 })
	becomes(t, inch, "G21", func(m *api.Modal) { m.Units = 21 })
	becomes(t, inch, "G95 F0.01", func(m *api.Modal) { m.Feeding, m.Feed = 95, 254 })
	// The units before the block do not matter if it has some.
	becomes(t, api.Modal{}, "F1 G20", func(m *api.Modal) { m.Feed, m.Units = 25400, 20 })
	becomes(t, api.Modal{Units: 22}, "F1 G21", func(m *api.Modal) { m.Feed, m.Units = 1000, 21 })
}

// P11.5, P11.4
func TestFeedErrors(t *testing.T) {
	metric, inch := modal.Start(), after(t, "G20")
	for _, text := range []string{"F0", "F0.000499", "F0.000019", "F-1", "F-100", "F60000.0005", "F999999999", "F0 G1 X1", "F0 G21", "F2362.204745 G20", "F60000 G20", "F0.000019 G20"} {
		refused(t, metric, text, api.ErrRange)
	}
	for _, text := range []string{"F0", "F0.000019", "F-1", "F2362.204745", "F60000", "F60000.0005 G21", "F0.0001 G21", "F0.000499 G21"} {
		refused(t, inch, text, api.ErrRange)
	}
	for _, units := range []int{0, 1, 19, 22, -21, most, least} {
		m := strange()
		m.Units = units
		for _, text := range []string{"F0", "F1", "F100 G1 X1", "F-1"} {
			refused(t, m, text, api.ErrArg)
		}
		becomes(t, m, "G1 X1 S5 T1", func(m *api.Modal) { m.Motion, m.Speed, m.Tool = 1, 5, 1 })
	}
}

// numberWords are the words that are integers, with their limits.
var numberWords = map[string]int{"S": api.MaxSpindle, "T": api.MaxTools, "H": api.MaxTools, "D": api.MaxTools}

// numberField returns the field of a word that is an integer.
func numberField(m *api.Modal, letter string) *int {
	switch letter {
	case "S":
		return &m.Speed
	case "T":
		return &m.Tool
	case "H":
		return &m.H
	}
	return &m.D
}

// P11.5: S, T, H and D.
func TestIntegers(t *testing.T) {
	for letter, limit := range numberWords {
		for _, m := range states(t) {
			for n := range limit + 1 {
				if n > 40 && n < limit-10 {
					continue
				}
				want := m
				*numberField(&want, letter) = n
				applied(t, m, value(int(letter[0]), n*one), want, api.OK)
			}
			for _, n := range []int{limit + 1, limit + 2, 2 * limit, -1, -2, -limit, 1 << 32, top / one, -top / one} {
				// A number that is not valid has the same error.
				applied(t, m, value(int(letter[0]), n*one), api.Modal{}, api.ErrArg)
			}
			for _, n := range []int{1, -1, one / 2, -one / 2, one - 1, one + 1, limit*one - 1, limit*one + 1, 3 * one / 2, top - 1} {
				applied(t, m, value(int(letter[0]), n), api.Modal{}, api.ErrArg)
			}
		}
	}
	becomes(t, strange(), "S30000 T32 H0 D31", func(m *api.Modal) { m.Speed, m.Tool, m.H, m.D = 30000, 32, 0, 31 })
	becomes(t, strange(), "S0 T0 H32 D0", func(m *api.Modal) { m.Speed, m.Tool, m.H, m.D = 0, 0, 32, 0 })
}

// P11.5: G64 with P and without it, P without G64, and G61.
func TestBlend(t *testing.T) {
	for _, before := range []string{"G61", "G64", "G64 P0.5", "G64 P1"} {
		m := after(t, before)
		inch := after(t, before+"|G20")
		set := func(code, blend int) func(m *api.Modal) {
			return func(m *api.Modal) { m.Path, m.Blend = code, blend }
		}
		for text, blend := range map[string]int{
			"G64": 0, "G64 P0": 0, "G64 P0.0005": 1, "G64 P0.000499": 0, "G64 P-0.0005": 0, "G64 P0.5": 500, "G64 P1": 1000, "G64 P1.000499": 1000, "G64 P0.9995": 1000, "G64 P0.999499": 999, "G64 X1 Y1 G1": 0, "G64 P0.25 X1": 250,
		} {
			becomes(t, m, text, func(m *api.Modal) {
				set(64, blend)(m)
				if modal.Has(block(text), 'G', 1) {
					m.Motion = 1
				}
			})
			refused(t, m, text+" Q1 Q1", api.ErrDuplicate)
		}
		for text, blend := range map[string]int{"G64": 0, "G64 P0": 0, "G64 P0.01": 254, "G64 P0.03937": 1000, "G64 P0.039389": 1000, "G64 P0.00002": 1, "G64 P-0.000019": 0} {
			becomes(t, inch, text, set(64, blend))
			becomes(t, m, text+" G20", func(m *api.Modal) {
				set(64, blend)(m)
				m.Units = 20
			})
		}
		becomes(t, inch, "G64 P1 G21", func(m *api.Modal) { m.Path, m.Blend, m.Units = 64, 1000, 21 })
		for _, p := range []string{"", " P0", " P1", " P-1", " P0.5", " P99999", " P999999999"} {
			becomes(t, m, "G61"+p, set(61, 0))
			becomes(t, m, "X1"+p, func(m *api.Modal) {})
			becomes(t, m, "G4"+p, func(m *api.Modal) {})
			becomes(t, m, "M62"+p, func(m *api.Modal) {})
		}
	}
}

// P11.5
func TestBlendErrors(t *testing.T) {
	m, inch := modal.Start(), after(t, "G20")
	for _, text := range []string{"G64 P1.0005", "G64 P2", "G64 P-1", "G64 P-0.000501", "G64 P1048", "G64 P1049", "G64 P2000", "G64 P-2000", "G64 P999999999", "G64 P0.03939 G20", "G64 P1 G20", "G64 P-0.00002 G20"} {
		refused(t, m, text, api.ErrRange)
	}
	for _, text := range []string{"G64 P0.03939", "G64 P1", "G64 P-1", "G64 P50", "G64 P-0.00002", "G64 P1.0005 G21"} {
		refused(t, inch, text, api.ErrRange)
	}
	for _, units := range []int{0, 19, 22, 64, most, least} {
		m := strange()
		m.Units = units
		for _, text := range []string{"G64 P0", "G64 P0.5", "G64 P-1 X1", "G64 P2000"} {
			refused(t, m, text, api.ErrArg)
		}
		becomes(t, m, "G64", func(m *api.Modal) { m.Path, m.Blend = 64, 0 })
		becomes(t, m, "G61 P1", func(m *api.Modal) { m.Path, m.Blend = 61, 0 })
		becomes(t, m, "G64 P0.01 G20", func(m *api.Modal) { m.Path, m.Blend, m.Units = 64, 254, 20 })
	}
}

// P11.5: M7 and M8 one after the other, and M9.
func TestCoolant(t *testing.T) {
	for text, want := range map[string][2]bool{
		"G1": {}, "M7": {true, false}, "M8": {false, true}, "M7|M8": {true, true}, "M8|M7": {true, true}, "M7|M7": {true, false}, "M8|G1|M8": {false, true}, "M7|G1 M8|X1": {true, true},
		"M9": {}, "M7|M9": {}, "M8|M9": {}, "M7|M8|M9": {}, "M8|M7|M9|M9": {}, "M7|M8|M9|M7": {true, false}, "M7|M8|M9|M8": {false, true}, "M7|M3|M5|M6|M0|M30": {true, false},
	} {
		m := after(t, text)
		if m.Mist != want[0] || m.Flood != want[1] {
			t.Errorf("after %s Mist is %v and Flood is %v", text, m.Mist, m.Flood)
		}
	}
	for _, text := range []string{"M7 M8", "M7 M9", "M8 M9", "M7 M7", "M9 M9"} {
		refused(t, strange(), text, api.ErrConflict)
	}
}

// P11.5: M6 with T and without it.
func TestLoadedTool(t *testing.T) {
	becomes(t, strange(), "M6", func(m *api.Modal) { m.Loaded = 117 })
	becomes(t, strange(), "T4", func(m *api.Modal) { m.Tool = 4 })
	becomes(t, strange(), "T4 M6", func(m *api.Modal) { m.Tool, m.Loaded = 4, 4 })
	becomes(t, strange(), "T0 M6 X1", func(m *api.Modal) { m.Tool, m.Loaded = 0, 0 })
	becomes(t, strange(), "T32 M6 H2 D3", func(m *api.Modal) { m.Tool, m.Loaded, m.H, m.D = 32, 32, 2, 3 })
	becomes(t, strange(), "M3 T5", func(m *api.Modal) { m.Spindle, m.Tool = 3, 5 })
	for text, want := range map[string][2]int{"M6": {0, 0}, "T3": {3, 0}, "T3|M6": {3, 3}, "T3|M6|T4": {4, 3}, "T3 M6|T4|M6": {4, 4}, "T3 M6|T4|T5 M6": {5, 5}, "T3 M6|T0 M6": {0, 0}, "T3 M6|M6": {3, 3}} {
		if m := after(t, text); m.Tool != want[0] || m.Loaded != want[1] {
			t.Errorf("after %s Tool is %d and Loaded is %d", text, m.Tool, m.Loaded)
		}
	}
	refused(t, strange(), "M6 T33", api.ErrArg)
	refused(t, strange(), "M6 T0.5", api.ErrArg)
	refused(t, strange(), "M6 M6", api.ErrConflict)
}

// P11.5: G49 and H, G40 and D.
func TestOffsets(t *testing.T) {
	m := strange()
	for _, c := range []int{43, 44, 49} {
		text := code{'G', c}.String()
		without := m.H
		if c == 49 {
			without = 0
		}
		becomes(t, m, text, func(m *api.Modal) { m.Length, m.H = c, without })
		becomes(t, m, text+" D6", func(m *api.Modal) { m.Length, m.H, m.D = c, without, 6 })
		for _, h := range []int{0, 1, 5, 32} {
			becomes(t, m, text+" H"+code{'X', h}.String()[1:], func(m *api.Modal) { m.Length, m.H = c, h })
		}
		refused(t, m, text+" H33", api.ErrArg)
		refused(t, m, text+" H-1", api.ErrArg)
	}
	for _, c := range []int{40, 41, 42} {
		text := code{'G', c}.String()
		without := m.D
		if c == 40 {
			without = 0
		}
		becomes(t, m, text, func(m *api.Modal) { m.Cutter, m.D = c, without })
		becomes(t, m, text+" H6", func(m *api.Modal) { m.Cutter, m.D, m.H = c, without, 6 })
		for _, d := range []int{0, 1, 5, 32} {
			becomes(t, m, text+" D"+code{'X', d}.String()[1:], func(m *api.Modal) { m.Cutter, m.D = c, d })
		}
		refused(t, m, text+" D33", api.ErrArg)
		refused(t, m, text+" D0.5", api.ErrArg)
	}
	becomes(t, m, "G40 G49", func(m *api.Modal) { m.Cutter, m.Length, m.H, m.D = 40, 49, 0, 0 })
	becomes(t, m, "G40 G49 H1 D2", func(m *api.Modal) { m.Cutter, m.Length, m.H, m.D = 40, 49, 1, 2 })
	becomes(t, m, "G40 G49 H1", func(m *api.Modal) { m.Cutter, m.Length, m.H, m.D = 40, 49, 1, 0 })
	becomes(t, m, "H7", func(m *api.Modal) { m.H = 7 })
	becomes(t, m, "D7", func(m *api.Modal) { m.D = 7 })
}

// P11.5: the errors of Check come first, whatever the words are.
func TestErrorsOfCheckComeFirst(t *testing.T) {
	words := block("F0 S-1 T33 H33 D33 P2 G64")
	for err, list := range wrong() {
		for _, l := range list {
			for _, m := range states(t) {
				applied(t, m, joined(block("G1 X1"), l), api.Modal{}, err)
				applied(t, m, joined(words, block("G1 X1"), l), api.Modal{}, err)
				applied(t, m, joined(block("G1 X1"), l, words), api.Modal{}, err)
			}
		}
	}
	for _, text := range []string{"G1 G4 F0", "G53 G4 S-1", "G53 G10 P0.5 T0.5", "G0 G92 D33"} {
		refused(t, modal.Start(), text, api.ErrConflict)
	}
	refused(t, modal.Start(), "F0 F0", api.ErrDuplicate)
	refused(t, modal.Start(), "T33 T33", api.ErrDuplicate)
	refused(t, modal.Start(), "F0 G5", api.ErrUnknown)
}

// P11.5: the errors of the words in their order, which is not that of the block.
func TestErrorsOfSeveralWords(t *testing.T) {
	m := modal.Start()
	for text, want := range map[string]api.Errno{
		"F0 S-1": api.ErrRange, "F0 T33": api.ErrRange, "F0 H33": api.ErrRange, "F0 D33": api.ErrRange, "F0 G64 P-1": api.ErrRange, "F0 S-1 T33 H33 D33": api.ErrRange,
		"S-1 G64 P-1": api.ErrArg, "T33 G64 P-1": api.ErrArg, "H33 G64 P-1": api.ErrArg, "D33 G64 P-1": api.ErrArg, "S0.5 T0.5 G64 P2": api.ErrArg, "F1 S0.5 G64 P2": api.ErrArg,
		"F1 G64 P2": api.ErrRange, "S1 T1 G64 P2": api.ErrRange, "H1 D1 G64 P2": api.ErrRange, "F1 S1 T1 D33": api.ErrArg, "D33 P2": api.ErrArg, "D33 P2 G61": api.ErrArg, "F60000 S1 G20": api.ErrRange, "F60000 S-1 G20": api.ErrRange,
	} {
		refused(t, m, text, want)
	}
	// The units are wrong for F and for P.
	m.Units = 22
	refused(t, m, "F0 G64 P2", api.ErrArg)
	refused(t, m, "G64 P2 S1", api.ErrArg)
	refused(t, m, "F0 S-1 G21", api.ErrRange)
	refused(t, m, "F1 G64 P2 G21", api.ErrRange)
}

// R2, R3: a result does not depend on what is done with earlier results and arguments.
func TestApplyForgets(t *testing.T) {
	m := modal.Start()
	l := block("F100 S5")
	first, _ := modal.Apply(m, l)
	l[0].N, l[1].N = 200*one, 6*one
	second, _ := modal.Apply(m, l)
	if first.Feed != 100000 || first.Speed != 5 || second.Feed != 200000 || second.Speed != 6 || m != modal.Start() {
		t.Errorf("%+v and %+v", first, second)
	}
	first.Feed, first.H = 1, 1
	third, _ := modal.Apply(m, l)
	if third != second {
		t.Errorf("%+v and %+v", second, third)
	}
}
