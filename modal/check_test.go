package modal_test

import (
	"cmp"
	"slices"
	"testing"

	"cnc/api"
	"cnc/modal"
)

// invalid are numbers that are not valid, some of which are multiples of a million.
var invalid = []int{top + 1, -top - 1, top + one, -top - one, 2 * top, 4000 * top, 1 << 62, most, least, least + 1}

func joined(lists ...[]api.Value) []api.Value { return slices.Concat(lists...) }

func value(letter, n int) []api.Value { return []api.Value{{Letter: letter, N: n}} }

// P11.3: blocks without an error, in all orders.
func TestBlocksWithoutError(t *testing.T) {
	for _, text := range []string{
		"", "G1", "M3", "X5", "G1 X5 G90 M3", "G1 X1 Y2 Z3 F100", "G2 X1 Y1 I1 J0", "G53 G0 X1", "G4 P1", "G31 Z-1 F5", "G10 L2 P1 X0", "G52 X1 Y1", "G92 Z0", "G68 R30 X0", "G17 G90 G21 G94 G40 G49", "G98 G54 G61 G15 G69",
		"M0 M3 M6 M7 M62 P1", "M30 M5 M9", "A0 B-1 C0.5 L1 E0.000001", "N1 O1 Q1 U1 V1 W1", "G4 M4 G91", "G1 M1", "G3 M3", "G12 I1 Q1 M8", "G53 M6", "G41 G43 D1 H1 T1 S1",
	} {
		for _, l := range orders(block(text)) {
			checked(t, l, api.OK)
		}
	}
	checked(t, nil, api.OK)
}

// P11.3: one value of each group that may stand beside the others, and of each letter, forward and backward.
func TestFullBlocks(t *testing.T) {
	for group, list := range groups() {
		for _, c := range list {
			var l []api.Value
			for other, codes := range groups() {
				// The group 14 is at odds with 1 and 13.
				if other != group && other != 14 && (group != 14 || other != 1 && other != 13) {
					first := codes[c.n%len(codes)]
					l = append(l, api.Value{Letter: first.letter, N: first.n * one})
				}
			}
			l = append(l, api.Value{Letter: c.letter, N: c.n * one})
			for letter := 'A'; letter <= 'Z'; letter++ {
				if letter != 'G' && letter != 'M' {
					l = append(l, api.Value{Letter: int(letter), N: c.n - 50})
				}
			}
			checked(t, l, api.OK)
			slices.Reverse(l)
			checked(t, l, api.OK)
		}
	}
}

// P11.3: letters outside A to Z.
func TestOtherLetters(t *testing.T) {
	for letter := -300; letter < 600; letter++ {
		want := api.ErrArg
		switch {
		case letter == 'G' || letter == 'M':
			want = api.ErrUnknown
		case letter >= 'A' && letter <= 'Z':
			want = api.OK
		}
		// No group has the code 99 of M or the code 5 of G.
		n := 99 * one
		if letter == 'G' {
			n = 5 * one
		}
		checked(t, value(letter, n), want)
		checked(t, joined(block("G1"), value(letter, n), block("G1")), cmp.Or(want, api.ErrConflict))
	}
	for _, letter := range []int{'@', '[', 'a', 'g', 'm', 'z', '`', '{', 0, 'G' + 256, 'X' + 256, 'X' - 256, 1<<32 + 'G', 1<<32 + 'X', -1<<32 + 'X', most, least, least + 'X'} {
		for _, n := range []int{0, one, -one, 5 * one, one / 2, top, top + 1, least} {
			checked(t, value(letter, n), api.ErrArg)
			checked(t, joined(block("G1 X1 M3"), value(letter, n)), api.ErrArg)
		}
	}
}

// P11.3: numbers that are not valid come before all that is wrong with a valid one.
func TestNumbersThatAreNotValid(t *testing.T) {
	for letter := 'A'; letter <= 'Z'; letter++ {
		for _, n := range invalid {
			checked(t, value(int(letter), n), api.ErrArg)
			checked(t, joined(block("G1 M3 X1 F1 A1"), value(int(letter), n)), api.ErrArg)
			checked(t, joined(value(int(letter), n), block("G1 M3 X1 F1 A1")), api.ErrArg)
		}
		if letter != 'G' && letter != 'M' {
			for _, n := range []int{0, 1, -1, one / 2, top - 1, top, 1 - top, -top} {
				checked(t, value(int(letter), n), api.OK)
			}
		}
	}
}

// P11.3: codes that do not exist.
func TestCodesThatDoNotExist(t *testing.T) {
	table := groupOf()
	for _, letter := range []int{'G', 'M'} {
		for n := -200; n < 1200; n++ {
			want := api.ErrUnknown
			if table[code{letter, n}] != 0 {
				want = api.OK
			}
			checked(t, value(letter, n*one), want)
			for _, d := range []int{1, one / 2, one - 1} {
				checked(t, value(letter, n*one+d), api.ErrUnknown)
			}
		}
		for _, n := range []int{1, -1, 2, 17, 90, top - one, top - 1, top, -top} {
			checked(t, value(letter, n), api.ErrUnknown)
		}
	}
}

// pairError returns the error of a block of two codes by their groups.
func pairError(a, b int) api.Errno {
	low, high := min(a, b), max(a, b)
	if low == high || high == 14 && (low == 1 || low == 13) {
		return api.ErrConflict
	}
	return api.OK
}

// P11.3: all pairs of codes, next to each other and with words between and around them.
func TestPairsOfCodes(t *testing.T) {
	table := groupOf()
	conflicts := 0
	for _, a := range codes() {
		for _, b := range codes() {
			want := pairError(table[a], table[b])
			first, second := value(a.letter, a.n*one), value(b.letter, b.n*one)
			checked(t, joined(first, second), want)
			checked(t, joined(block("X1"), first, block("Y1 P1"), second, block("Z1")), want)
			if want != api.OK {
				conflicts++
			}
		}
	}
	// The squares of the sizes of the groups of G and of M, and twice the pairs of the groups 1 and 14, and 13 and 14.
	if conflicts != 366+39+2*(15*7+1*7) {
		t.Errorf("%d pairs are conflicts", conflicts)
	}
}

// P11.3: the same letter twice, with equal and with other numbers.
func TestLettersTwice(t *testing.T) {
	for letter := 'A'; letter <= 'Z'; letter++ {
		if letter == 'G' || letter == 'M' {
			continue
		}
		for other := 'A'; other <= 'Z'; other++ {
			if other == 'G' || other == 'M' {
				continue
			}
			want := api.OK
			if letter == other {
				want = api.ErrDuplicate
			}
			for _, n := range []int{0, 1, -one} {
				checked(t, joined(value(int(letter), 0), value(int(other), n)), want)
				checked(t, joined(value(int(letter), one), block("G1 M3"), value(int(other), n)), want)
			}
		}
	}
	checked(t, block("X1 Y1 X1"), api.ErrDuplicate)
	checked(t, block("X1 Y1 Y1 X1"), api.ErrDuplicate)
	checked(t, block("G90 G1 M3 M6"), api.OK)
}

// wrong returns values that have an error behind the values of a block G1 X1.
func wrong() map[api.Errno][][]api.Value {
	return map[api.Errno][][]api.Value{
		api.ErrArg:       {value('x', 0), value('[', one), value('X', top+1), value('Y', -top-1), value('G', top+one), value('M', least), value('G'+256, one)},
		api.ErrUnknown:   {block("G5"), block("G1.5"), block("M98"), block("G65"), block("G-1"), block("M2.000001"), value('G', top)},
		api.ErrConflict:  {block("G1"), block("G2"), block("G89"), block("G80")},
		api.ErrDuplicate: {block("X1"), block("X2"), block("X0"), value('X', -top)},
	}
}

// P11.3: the first value that has an error decides, and not the error that is listed first.
func TestErrorsOfSeveralValues(t *testing.T) {
	for err, list := range wrong() {
		for _, first := range list {
			for _, more := range wrong() {
				for _, second := range more {
					checked(t, joined(block("G1 X1"), first, second), err)
					checked(t, joined(block("X1 G1 M3"), first, block("Y1 G90"), second, block("Z1")), err)
					// The whole list gives ErrConflict, too, but only if no value has an error.
					checked(t, joined(block("G1 X1 G4"), first, second), err)
					checked(t, joined(block("G1 X1"), first, block("G53 G4"), second), err)
				}
			}
		}
	}
}

// P11.3: the errors of one value in their order.
func TestErrorsOfOneValue(t *testing.T) {
	// The number is not valid; the code is unknown, too, or the letter is there already.
	checked(t, joined(block("X1"), value('X', top+1)), api.ErrArg)
	checked(t, joined(block("G1"), value('G', top+one)), api.ErrArg)
	checked(t, joined(block("M3"), value('M', -top-1)), api.ErrArg)
	checked(t, joined(value('x', 1), value('x', 1)), api.ErrArg)
	// A code of no group belongs to no group twice, and G and M are never duplicates.
	checked(t, block("G1 G1.5"), api.ErrUnknown)
	checked(t, block("M3 M3.5"), api.ErrUnknown)
	checked(t, block("G5 G5"), api.ErrUnknown)
	checked(t, block("G1 G1"), api.ErrConflict)
	checked(t, block("M3 M3"), api.ErrConflict)
	checked(t, block("G4 G4"), api.ErrConflict)
	checked(t, block("G53 G53"), api.ErrConflict)
}

// P11.3: the groups 1 and 14, and 13 and 14, in all orders and with other values.
func TestGroupsAtOdds(t *testing.T) {
	for text, want := range map[string]api.Errno{
		"G1 G4": api.ErrConflict, "G80 G92 X1": api.ErrConflict, "G53 G4": api.ErrConflict, "G53 G10 L2": api.ErrConflict, "G53 G1 G4": api.ErrConflict, "G0 X1 M3 G52": api.ErrConflict,
		"G53 G1": api.OK, "G53 G80 M3": api.OK, "G4 M3 X1": api.OK, "G4 G90 G54 G20": api.OK, "G53 G90": api.OK, "G31 M0 M6 M9": api.OK,
	} {
		for _, l := range orders(block(text)) {
			checked(t, l, want)
		}
	}
}

// P11.3, R3: nothing remains of an earlier block.
func TestCheckForgets(t *testing.T) {
	for _, text := range []string{"G1", "G4", "G53", "X1", "M3"} {
		checked(t, block(text), api.OK)
		checked(t, block("G90 F1"), api.OK)
		checked(t, block(text), api.OK)
	}
	l := block("X1 Y1")
	checked(t, l, api.OK)
	l[1].Letter = 'X'
	checked(t, l, api.ErrDuplicate)
	if modal.Check(l[:1]) != api.OK {
		t.Error("a part of a block has the error of the whole block")
	}
}
