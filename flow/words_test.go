package flow_test

import (
	"strconv"
	"strings"
	"testing"

	"cnc/api"
	"cnc/flow"
	"cnc/library"
)

// P10.3: the values of a block, in the order of its words.
func TestValues(t *testing.T) {
	runs(t, "G1X1.5Y-2Z[3*4]|Z1Y2X3", "0:G1X1.5Y-2Z12 1/0/0", "1:Z1Y2X3 2/0/0", "end 3/0/0")
	runs(t, "X1X1X2|G1G1M3M3", "0:X1X1X2 1/0/0", "1:G1G1M3M3 2/0/0", "end 3/0/0")
	runs(t, "#1=2|X#1Y-#1Z[#1/4]A##1", "1:X2Y-2Z0.5A0 2/0/0", "end 3/0/0")
	runs(t, "X[1 GT 0]Y[0 GT 1]", "0:X1Y0 1/0/0", "end 2/0/0")
	runs(t, "X1Y1Z1X1Y1Z1X1Y1Z1X1Y1Z1X1Y1Z1X1Y1Z1X1Y1Z1X1Y1Z1", "0:"+strings.Repeat("X1Y1Z1", 8)+" 1/0/0", "end 2/0/0")
	runs(t, "A1B2C3D4E5F6G7H8I9J10K11L12M13P14Q15R16S17T18U19V20W21X22Y23Z24", "0:A1B2C3D4E5F6G7H8I9J10K11L12M13P14Q15R16S17T18U19V20W21X22Y23Z24 1/0/0", "end 2/0/0")
}

// P10.3: the words that are like a command or like M2 and M30, and are none.
func TestPlainWords(t *testing.T) {
	for _, word := range []string{
		"M98.000001", "M97.999999", "M-98", "M99.5", "M98.1", "G65.1", "G64.999999", "G-65", "M65", "G98", "G99", "P98", "L99", "X98", "X65", "X99", "M66", "M97", "M100", "G66", "G64",
		"M2.000001", "M1.999999", "M-2", "M30.1", "M29.999999", "M-30", "G2", "G30", "P2", "X2", "X30", "M1", "M3", "M29", "M31", "M0", "M20", "M0.000002", "M0.00003", "M0.000098", "G0.000065",
	} {
		runs(t, word+"|X1", "0:"+word+" 1/0/0", "1:X1 2/0/0", "end 3/0/0")
		runs(t, "P5L0"+word+"P5|X1|O5", "0:P5L0"+word+"P5 1/0/0", "1:X1 2/0/0", "end 3/0/0")
	}
}

// P10.3: commands whose code is a value of an expression.
func TestComputedCommands(t *testing.T) {
	runs(t, "M[90+8]P5|X1|O5|X2", "3:X2 3/1/0", "1:X1 5/0/0", "end 6/0/0")
	runs(t, "#1=65|G#1P5A#1|X1|O5|X#1", "4:X65 4/1/1", "2:X1 6/0/0", "end 7/0/0")
	runs(t, "M[100-1]|X1", "end 1/0/0")
	runs(t, "X1M[1+1]|X1", "0:X1M2 1/0/0", "end 1/0/0")
	runs(t, "#1=30|M#1|X1", "1:M30 2/0/0", "end 2/0/0")
	runs(t, "M98.0P5.0L1.0|O5|X2", "2:X2 3/1/0", "end 5/0/0")
}

// P10.3: all words are evaluated first, in order.
func TestErrorsOfWords(t *testing.T) {
	for text, want := range map[string]string{
		"X[1/0]":                     errZero,
		"X1Y2Z[1/0]":                 errZero,
		"X[1/0]Y[SQRT[-1]]":          errZero,
		"X[SQRT[-1]]Y[1/0]":          errDomain,
		"X#34Y[1/0]":                 errUnknown,
		"X1Y#34Z[1/0]":               errUnknown,
		"X[999999999*999999999]Y#34": errRange,
		"M2X[1/0]":                   errZero,
		"M30X#34":                    errUnknown,
		"M99X[1/0]":                  errZero,
		"M98M98P[1/0]":               errZero,
		"M98G65M99X[1/0]":            errZero,
		"M98P5X[1/0]":                errZero,
		"M98P[1/0]L[SQRT[-1]]":       errZero,
		"M98P[SQRT[-1]]P[1/0]":       errDomain,
		"M98P5P5L#34":                errUnknown,
		"G65G1P5A[1/0]":              errZero,
		"G65P5A1A[SQRT[-1]]":         errDomain,
		"G65A[SQRT[-1]]P[1/0]":       errDomain,
		"M[1/0]":                     errZero,
	} {
		runs(t, text+"|X1|O5", want+"1/0/0")
		runs(t, "#1=1|X1|"+text+"|O5", "1:X1 2/0/0", want+"3/0/0")
		runs(t, "M98P7|X1|O7|"+text+"|X1|O5", want+"3/1/0")
	}
}

// P10.3: more than one command in a block, also one of them twice.
func TestTwoCommands(t *testing.T) {
	commands := []string{"M98", "G65", "M99"}
	for _, a := range commands {
		for _, b := range commands {
			for _, text := range []string{a + b, a + b + "P5", "P5" + a + b, a + "P5" + b, a + "X1P5P5L0" + b, "G1" + a + "M3" + b + "X1X1", a + "P9" + b} {
				runs(t, text+"|X1|O5|X1", errConflict+"1/0/0")
				runs(t, "M98P7|O7|"+text+"|X1|O5", errConflict+"3/1/0")
			}
		}
	}
	runs(t, "M98G65M99P5|O5", errConflict+"1/0/0")
}

// P10.3: the errors of M98, in their order.
func TestErrorsOfPlainCall(t *testing.T) {
	for text, want := range map[string]string{
		"M98P5X1": errConflict, "X0M98P5": errConflict, "M98P5G1": errConflict, "G90M98P5": errConflict, "M98P5A1": errConflict, "M98P5Z1L2": errConflict, "M98P5H1": errConflict, "M98P5D1": errConflict, "M98P5Q1": errConflict,
		"M98P5M3": errConflict, "M3M98P5": errConflict, "M98P5M2": errConflict, "M98P5M30": errConflict, "M98P5L1M98.5": errConflict, "M97M98P5": errConflict,
		"M98P5P5": errTwice, "M98P5P6": errTwice, "P5M98P5": errTwice, "M98P5L1L1": errTwice, "L2M98P5L3": errTwice, "M98P5P5L2L2": errTwice,
		"M98": errMissing, "M98L1": errMissing, "L1M98": errMissing,
		"M98P4": errUnknown, "M98P-5": errUnknown, "M98P5.5": errUnknown, "M98P4.999999": errUnknown, "M98P0.000005": errUnknown, "M98P99999": errUnknown, "M98P999999999": errUnknown, "M98P0.5": errUnknown, "M98P-0.5": errUnknown,
		"M98P5L0": errArg, "M98P5L1000": errArg, "M98P5L-1": errArg, "M98P5L1.5": errArg, "M98P5L0.999999": errArg, "M98P5L999.000001": errArg, "M98P5L1000000": errArg, "L0M98P5": errArg, "M98P5L-999": errArg, "M98P5L999999999": errArg,
		// Two and more of them.
		"M98X1P5P5": errConflict, "M98M3P5P5": errConflict, "M98X1": errConflict, "M98X1P4": errConflict, "M98M3P4": errConflict, "M98M3": errConflict, "M98P5X1L0": errConflict, "M98P5M3L0": errConflict,
		"M98L1L1": errTwice, "M98L0L0": errTwice, "M98P4P4": errTwice, "M98P4L1L1": errTwice, "M98P5P5L0": errTwice, "M98P4L0L0": errTwice, "M98P5P4": errTwice, "M98P4P5": errTwice,
		"M98L0": errMissing, "M98L1.5": errMissing, "M98L1000": errMissing,
		"M98P4L0": errUnknown, "M98P4.5L1000": errUnknown, "M98L0P4": errUnknown, "M98P-5L1.5": errUnknown,
	} {
		runs(t, text+"|X1|O5|X1|O6|X1", want+"1/0/0")
		runs(t, "M98P7|O5|X1|O6|X1|O7|"+text+"|X1", want+"3/1/0")
	}
}

// P10.3: the errors of G65, in their order.
func TestErrorsOfCallWithArgs(t *testing.T) {
	for text, want := range map[string]string{
		"G65P5G1": errConflict, "G1G65P5": errConflict, "G65P5G65.5": errConflict, "G65P5G0A1": errConflict,
		"G65P5P5": errTwice, "G65P5P6": errTwice, "P5G65P5": errTwice, "G65P5L1L1": errTwice, "L2G65P5L3": errTwice, "G65A1P5L2P5": errTwice,
		"G65": errMissing, "G65L1": errMissing, "G65A1": errMissing, "A1G65B2": errMissing,
		"G65P4": errUnknown, "G65P-5": errUnknown, "G65P5.5": errUnknown, "G65P0.000005": errUnknown, "G65P99999A1": errUnknown, "G65P0.5": errUnknown,
		"G65P5L0": errArg, "G65P5L1000": errArg, "G65P5L-1": errArg, "G65P5L1.5": errArg, "G65P5L0.999999": errArg, "A1G65P5L999.000001": errArg,
		"G65P5X1X2": errTwice, "X1G65X1P5": errTwice, "G65P5A1B1C1B1": errTwice, "G65P5M1M2": errTwice, "G65P5M3M3": errTwice, "G65P5L2Z1Z1": errTwice,
		// Two and more of them.
		"G65G1P5P5": errConflict, "G65G1": errConflict, "G65G1P4": errConflict, "G65G1P5L0": errConflict, "G65G1P5X1X1": errConflict,
		"G65L1L1": errTwice, "G65P4P4": errTwice, "G65P4L1L1": errTwice, "G65P5P5L0": errTwice, "G65P4L0L0": errTwice,
		"G65L0": errMissing, "G65X1X1": errMissing, "G65L1000X1X1": errMissing,
		"G65P4L0": errUnknown, "G65P4X1X1": errUnknown, "G65P4.5L0X1X1": errUnknown,
		"G65P5L0X1X1": errArg, "G65X1X1P5L1000": errArg,
	} {
		runs(t, text+"|X1|O5|X1|O6|X1", want+"1/0/0")
		runs(t, "G65P7|O5|X1|O6|X1|O7|"+text+"|X1", want+"3/1/1")
	}
}

// P10.3: the errors of M99.
func TestErrorsOfReturn(t *testing.T) {
	for _, text := range []string{"M99X1", "X1M99", "M99P5", "M99L2", "M99G1", "M99M3", "M2M99", "M99M30", "G1M99X1", "M99M99.5"} {
		runs(t, text+"|X1|O5", errConflict+"1/0/0")
		runs(t, "M98P7|O5|X1|O7|"+text+"|X1", errConflict+"3/1/0")
		runs(t, "G65P7L2|O5|X1|O7|"+text+"|X1", errConflict+"3/1/1")
	}
}

// deep is a text that comes to a block with api.MaxCalls open calls behind 32 steps. The program 1 calls itself.
func deep(command, block string) string {
	return command + "P1|X8|O1|#100=#100+1|IF[#100 GE 8]GOTO1|" + command + "P1|N1" + block + "|X9|O5|X5"
}

// P10.3: api.MaxCalls open calls, and what follows of one more.
func TestMostCalls(t *testing.T) {
	for text, want := range map[string]string{
		"M98P5": errLimit, "G65P5": errLimit, "M98P5L2": errLimit, "G65P5A1": errLimit, "G65P5X1X1": errLimit, "G65P5L999": errLimit, "M98P0": errLimit, "M98P1": errLimit,
		"M98P5L0": errArg, "G65P5L0": errArg, "M98P4": errUnknown, "G65P4": errUnknown, "M98": errMissing, "G65": errMissing, "M98P5P5": errTwice, "G65P5P5": errTwice, "M98P5X1": errConflict, "G65P5G1": errConflict, "M98P5M99": errConflict,
		"M99X1": errConflict, "X[1/0]": errZero, "GOTO9": errUnknown,
	} {
		runs(t, deep("M98", text), want+"33/8/0")
		runs(t, deep("G65", text), want+"33/8/8")
	}
	for _, command := range []string{"M98", "G65"} {
		for _, text := range []string{"X7", "M99"} {
			m := start(t, deep(command, text), false)
			if text == "X7" {
				gives(t, m, map[string]string{"M98": "6:X7 33/8/0", "G65": "6:X7 33/8/8"}[command])
			}
			follow(t, build(t, read(t, deep(command, text))), rules{})
		}
	}
	runs(t, "M98P1|O1|X1|M98P1", "2:X1 3/1/0", "2:X1 6/2/0", "2:X1 9/3/0", "2:X1 12/4/0", "2:X1 15/5/0", "2:X1 18/6/0", "2:X1 21/7/0", "2:X1 24/8/0", errLimit+"25/8/0")
	runs(t, "X1|G65P0", "0:X1 1/0/0", "0:X1 3/1/1", "0:X1 5/2/2", "0:X1 7/3/3", "0:X1 9/4/4", "0:X1 11/5/5", "0:X1 13/6/6", "0:X1 15/7/7", "0:X1 17/8/8", errLimit+"18/8/8")
	// A call that was closed leaves room for another one.
	want := []string{"7:X9 33/8/0"}
	for depth := 7; depth > 0; depth-- {
		steps := 37 + 6*(7-depth)
		want = append(want, "9:X5 "+strconv.Itoa(steps)+"/"+strconv.Itoa(depth+1)+"/0", "7:X9 "+strconv.Itoa(steps+2)+"/"+strconv.Itoa(depth)+"/0")
	}
	runs(t, "M98P1|X8|O1|#100=#100+1|IF[#100 GE 8]GOTO1|M98P1|M98P5|N1X9|O5|X5", append(want, "1:X8 77/0/0", "end 78/0/0")...)
}

// P10.3: M2 and M30 alone, among other words and twice, in the main program and in others.
func TestEndWords(t *testing.T) {
	for _, text := range []string{"M2", "M30", "X1M2", "M30X1", "G1X1M2Y2", "M3M30M5", "M2M2", "M2M30", "P5M30L0", "M2G64", "G1M2G2"} {
		runs(t, text+"|X9", "0:"+text+" 1/0/0", "end 1/0/0")
		runs(t, "X9|"+text, "0:X9 1/0/0", "1:"+text+" 2/0/0", "end 2/0/0")
		runs(t, "M98P5|X9|O5|"+text+"|X9", "3:"+text+" 3/1/0", "end 3/1/0")
		runs(t, "G65P5L3|X9|O5|G65P6|O6|"+text+"|X9", "5:"+text+" 5/2/2", "end 5/2/2")
		runs(t, "WHILE[1]DO1|"+text+"|END1", "1:"+text+" 2/0/0", "end 2/0/0")
	}
	// They do not end the execution where they are arguments, or passed over.
	runs(t, "G65P5M30|X1|O5|X#13", "3:X30 3/1/1", "1:X1 5/0/0", "end 6/0/0")
	runs(t, "G65P5M2|X1|O5|X#13", "3:X2 3/1/1", "1:X1 5/0/0", "end 6/0/0")
	skips(t, "/M30|X1|/X1M2|X2", "1:X1 2/0/0", "3:X2 4/0/0", "end 5/0/0")
	runs(t, "GOTO5|M30|N5X1", "2:X1 2/0/0", "end 3/0/0")
}

// gap is a library whose block at the index at is to be replaced.
type gap struct {
	l  api.Library
	at int
}

// P10.3: all rows of up to three words out of many, and of four out of some, with and without room for a call.
func TestAllRowsOfWords(t *testing.T) {
	many := []string{"M98", "G65", "M99", "M30", "M3", "G1", "P5", "P0", "P4", "P5.5", "L2", "L0", "L1.5", "L999", "L1000", "X1", "X2", "X[1/0]", "Y#34", "A#100"}
	some := []string{"M98", "G65", "M99", "M2", "P5", "P4", "L2", "L0", "X1"}
	for _, x := range []struct {
		text string
		at   int
	}{{"X0|X1|O5|X2|O6|#1=#1+1|X#1X#24", 0}, {deep("M98", "X0") + "|O6|X6", 6}, {deep("G65", "X0"), 6}, {"M98P7L2|O7|X0|X1|O5|X2|O6|M99", 2}} {
		g := gap{build(t, read(t, x.text)), x.at}
		g.checkAll(t, many, 3)
		g.checkAll(t, some, 4)
	}
}

// checkAll compares a machine with the model for all rows of up to most of the words at the block at.
func (g gap) checkAll(t *testing.T, texts []string, most int) {
	t.Helper()
	var list []api.Word
	for _, text := range texts {
		list = append(list, read(t, text)[0].Words...)
	}
	ends := map[api.Errno]int{}
	for length := 1; length <= most; length++ {
		for row := range rows(len(list), length) {
			var words []api.Word
			for _, i := range row {
				words = append(words, list[i])
			}
			g.l.Blocks[g.at].Words = words
			ends[follow(t, g.l, rules{results: 5})]++
		}
	}
	for _, err := range []api.Errno{api.ErrArg, api.ErrDuplicate, api.ErrConflict, api.ErrMissing, api.ErrUnknown} {
		if ends[err] == 0 {
			t.Errorf("no row has the error %d", err)
		}
	}
}

// rows returns all rows of a length of numbers below n.
func rows(n, length int) func(yield func([]int) bool) {
	return func(yield func([]int) bool) {
		row := make([]int, length)
		for {
			if !yield(row) {
				return
			}
			i := length - 1
			for i >= 0 && row[i] == n-1 {
				row[i] = 0
				i--
			}
			if i < 0 {
				return
			}
			row[i]++
		}
	}
}

// P10.3: the greatest values of P and L, which no line can have.
func TestGreatNumbers(t *testing.T) {
	for _, n := range []int{api.MaxNum - 1, api.MaxNum - one, 1 << 40} {
		for _, letter := range "PL" {
			words := []api.Word{{Letter: 'M', X: num(98 * one)}, {Letter: int(letter), X: num(n)}}
			if letter == 'L' {
				words = append(words, api.Word{Letter: 'P', X: num(0)})
			}
			l, _, _ := library.Build([]api.Block{{Words: words}})
			m, _ := flow.New(l, false)
			want := map[rune]string{'P': errUnknown, 'L': errArg}[letter]
			gives(t, m, want+"1/0/0")
		}
	}
}
