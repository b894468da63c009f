package flow_test

import (
	"strconv"
	"strings"
	"testing"

	"cnc/api"
)

// The errors, as results of Next.
const (
	errArg      = "error 1 "
	errRange    = "error 3 "
	errZero     = "error 4 "
	errDomain   = "error 5 "
	errUnknown  = "error 6 "
	errTwice    = "error 7 "
	errConflict = "error 8 "
	errMissing  = "error 9 "
	errLimit    = "error 10 "
	errNesting  = "error 11 "
	errState    = "error 13 "
)

// skips compares a machine that skips blocks, and the model, with the wanted results.
func skips(t *testing.T, text string, want ...string) {
	t.Helper()
	gives(t, start(t, text, true), want...)
	follow(t, build(t, read(t, text)), rules{skip: true})
}

// P10.2: blocks without an effect are passed over, and each of them is a step.
func TestPassedOver(t *testing.T) {
	runs(t, "|", "end 2/0/0")
	runs(t, "N5||N3|", "end 4/0/0")
	runs(t, "||X1|(a)|X2|", "2:X1 3/0/0", "4:X2 5/0/0", "end 6/0/0")
	runs(t, "N7O10|X1", "1:X1 2/0/0", "end 3/0/0")
	runs(t, "/N7O10||X1", "2:X1 3/0/0", "end 4/0/0")
}

// P10.2: the end of a program, with and without programs behind it.
func TestEndOfProgram(t *testing.T) {
	runs(t, "X1|O1|X2|O2|X3", "0:X1 1/0/0", "end 2/0/0")
	runs(t, "O1|X2|O2|X3", "1:X2 2/0/0", "end 3/0/0")
	runs(t, "M98P2|X1|O1|X2|O2|X3|O3|X4", "5:X3 3/1/0", "1:X1 5/0/0", "end 6/0/0")
	runs(t, "M98P3|X1|O1|X2|O2|X3|O3|X4", "7:X4 3/1/0", "1:X1 5/0/0", "end 6/0/0")
	runs(t, "M98P1|O1|M98P2|O2", "end 7/0/0")
}

// P10.2: blocks with Skip are executed, or passed over without any effect.
func TestSkip(t *testing.T) {
	for _, x := range []struct {
		text          string
		without, with []string
	}{
		{"/X1|X2", []string{"0:X1 1/0/0", "1:X2 2/0/0", "end 3/0/0"}, []string{"1:X2 2/0/0", "end 3/0/0"}},
		{"/N5X1|/|X2", []string{"0:X1 1/0/0", "2:X2 3/0/0", "end 4/0/0"}, []string{"2:X2 3/0/0", "end 4/0/0"}},
		{"/X[1/0]|X2", []string{errZero + "1/0/0"}, []string{"1:X2 2/0/0", "end 3/0/0"}},
		{"/#1=5|X#1", []string{"1:X5 2/0/0", "end 3/0/0"}, []string{"1:X0 2/0/0", "end 3/0/0"}},
		{"/GOTO5|X1|N5X2", []string{"2:X2 2/0/0", "end 3/0/0"}, []string{"1:X1 2/0/0", "2:X2 3/0/0", "end 4/0/0"}},
		{"/GOTO9|X1", []string{errUnknown + "1/0/0"}, []string{"1:X1 2/0/0", "end 3/0/0"}},
		{"/IF[1]GOTO5|X1|N5X2", []string{"2:X2 2/0/0", "end 3/0/0"}, []string{"1:X1 2/0/0", "2:X2 3/0/0", "end 4/0/0"}},
		{"/WHILE[0]DO1|X1|/END1|X2", []string{"3:X2 2/0/0", "end 3/0/0"}, []string{"1:X1 2/0/0", "3:X2 4/0/0", "end 5/0/0"}},
		{"WHILE[#1LT2]DO1|#1=#1+1|/END1|X#1", []string{"3:X2 8/0/0", "end 9/0/0"}, []string{"3:X1 4/0/0", "end 5/0/0"}},
		{"/O5|X1", []string{"1:X1 2/0/0", "end 3/0/0"}, []string{"1:X1 2/0/0", "end 3/0/0"}},
		{"/M98P5|/G65P5|X1|O5|X2", []string{"4:X2 3/1/0", "4:X2 7/1/1", "2:X1 9/0/0", "end 10/0/0"}, []string{"2:X1 3/0/0", "end 4/0/0"}},
		{"/M99|X1", []string{"end 1/0/0"}, []string{"1:X1 2/0/0", "end 3/0/0"}},
		{"/M30|X1", []string{"0:M30 1/0/0", "end 1/0/0"}, []string{"1:X1 2/0/0", "end 3/0/0"}},
		{"M98P5|X1|O5|/M99|X2", []string{"1:X1 4/0/0", "end 5/0/0"}, []string{"4:X2 4/1/0", "1:X1 6/0/0", "end 7/0/0"}},
		{"GOTO5|/N5X1|X2", []string{"1:X1 2/0/0", "2:X2 3/0/0", "end 4/0/0"}, []string{"2:X2 3/0/0", "end 4/0/0"}},
		// The end of a loop leads to its beginning also where that is passed over.
		{"/WHILE[0]DO1|X1|END1|X2", []string{"3:X2 2/0/0", "end 3/0/0"}, nil},
	} {
		runs(t, x.text, x.without...)
		if x.with != nil {
			skips(t, x.text, x.with...)
		}
	}
	skips(t, "/WHILE[0]DO1|END1", errLimit+"20000/0/0")
	m := start(t, "/WHILE[0]DO1|X1|END1", true)
	gives(t, m, "1:X1 2/0/0", "1:X1 5/0/0", "1:X1 8/0/0")
}

// P10.2: assignments.
func TestSet(t *testing.T) {
	runs(t, "#1=5|X#1", "1:X5 2/0/0", "end 3/0/0")
	runs(t, "#1=2|#[#1+1]=#1*3|##1=#3-1|X#1Y#2Z#3", "3:X2Y5Z6 4/0/0", "end 5/0/0")
	runs(t, "#1=1|#1=#1+0.5|#1=-#1|X#1", "3:X-1.5 4/0/0", "end 5/0/0")
	runs(t, "#33=1|#100=2|#199=3|X#33Y#100Z#199", "3:X1Y2Z3 4/0/0", "end 5/0/0")
	runs(t, "#[3/2+1/2]=7|X#2", "1:X7 2/0/0", "end 3/0/0")
}

// P10.2: the errors of an assignment, in their order.
func TestErrorsOfSet(t *testing.T) {
	for text, want := range map[string]string{
		"#1=1/0":                 errZero,
		"#1=#34":                 errUnknown,
		"#1=#1.5":                errUnknown,
		"#1=999999999*999999999": errRange,
		"#1=SQRT[-1]":            errDomain,
		"#[1/0]=1":               errZero,
		"#[SQRT[-1]]=1":          errDomain,
		"##34=1":                 errUnknown,
		"#1.5=1":                 errUnknown,
		"#0.999999=1":            errUnknown,
		"#[0-1.5]=1":             errUnknown,
		"#34=1":                  errUnknown,
		"#0=1":                   errUnknown,
		"#[0-1]=1":               errUnknown,
		"#99=1":                  errUnknown,
		"#200=1":                 errUnknown,
		"#5000=1":                errState,
		"#5999=1":                errState,
		"#6000=1":                errUnknown,
		// Left, X, and then the number of the variable.
		"#[1/0]=SQRT[-1]": errZero,
		"#[SQRT[-1]]=1/0": errDomain,
		"#1.5=1/0":        errZero,
		"#34=1/0":         errZero,
		"#5000=1/0":       errZero,
		"#1.5=SQRT[-1]":   errDomain,
		"#5000=SQRT[-1]":  errDomain,
		"#5000.5=1":       errUnknown,
	} {
		runs(t, text, want+"1/0/0")
		runs(t, "#1=3|X#1|"+text+"|X1", "1:X3 2/0/0", want+"3/0/0")
	}
}

// P10.2: jumps ahead and back, to values of all kinds.
func TestGoto(t *testing.T) {
	runs(t, "GOTO5|X1|N5X2", "2:X2 2/0/0", "end 3/0/0")
	runs(t, "GOTO[2+3]|N4X1|N5X2|N6X3", "2:X2 2/0/0", "3:X3 3/0/0", "end 4/0/0")
	runs(t, "#1=5|GOTO#1|N6|X1|N5X2", "4:X2 3/0/0", "end 4/0/0")
	runs(t, "GOTO99999|X1|N99999X2", "2:X2 2/0/0", "end 3/0/0")
	runs(t, "GOTO1|N2X2|GOTO3|N1X1|GOTO2|N3X3", "3:X1 2/0/0", "1:X2 4/0/0", "5:X3 6/0/0", "end 7/0/0")
	runs(t, "N1#1=#1+1|X#1|IF[#1LT3]GOTO1|X0", "1:X1 2/0/0", "1:X2 5/0/0", "1:X3 8/0/0", "3:X0 10/0/0", "end 11/0/0")
	runs(t, "GOTO5|X1|N5", "end 3/0/0")
	runs(t, "N1GOTO[-2*-1]|N2X1", "1:X1 2/0/0", "end 3/0/0")
}

// P10.2: jumps to blocks of each kind.
func TestTargets(t *testing.T) {
	runs(t, "GOTO5|#1=1|N5#1=#1+2|X#1", "3:X2 3/0/0", "end 4/0/0")
	runs(t, "GOTO5|N6X1|M30|N5GOTO6", "1:X1 3/0/0", "2:M30 4/0/0", "end 4/0/0")
	runs(t, "GOTO5|X1|N5IF[0]GOTO5|X2", "3:X2 3/0/0", "end 4/0/0")
	runs(t, "GOTO5|X1|N5WHILE[#1LT1]DO1|#1=#1+1|END1|X2", "5:X2 6/0/0", "end 7/0/0")
	runs(t, "N5O1|X1|#1=#1+1|IF[#1LT2]GOTO5", "1:X1 2/0/0", "1:X1 6/0/0", "end 9/0/0")
	runs(t, "GOTO5|X1|N5M98P1|X2|O1|X3", "5:X3 4/1/0", "3:X2 6/0/0", "end 7/0/0")
	runs(t, "GOTO5|X1|N5M99|X2", "end 2/0/0")
	runs(t, "WHILE[#1LT2]DO1|#1=#1+1|GOTO5|X1|N5END1|X2", "5:X2 10/0/0", "end 11/0/0")
}

// P10.2: a jump to its own block.
func TestJumpToItself(t *testing.T) {
	runs(t, "N1GOTO1", errLimit+"20000/0/0")
	runs(t, "X1|N1IF[1]GOTO1", "0:X1 1/0/0", errLimit+"20000/0/0")
	runs(t, "M98P5|O5|N1GOTO[#1+1]", errLimit+"20000/1/0")
	runs(t, "WHILE[1]DO1|N1GOTO1|END1", errLimit+"20000/0/0")
}

// P10.2: the labels of other programs are unknown, also if they are those of the main program or of a caller.
func TestLabelsOfPrograms(t *testing.T) {
	runs(t, "GOTO5|O10|N5X1", errUnknown+"1/0/0")
	runs(t, "O10|GOTO5|O11|N5X1", errUnknown+"2/0/0")
	runs(t, "N5|M98P10|O10|GOTO5", errUnknown+"4/1/0")
	runs(t, "GOTO5|X1|N5O10", errUnknown+"1/0/0")
	runs(t, "N5X1|M98P10|X2|O10|GOTO5|X9|N5X3", "0:X1 1/0/0", "6:X3 5/1/0", "2:X2 7/0/0", "end 8/0/0")
	runs(t, "M98P10|GOTO5|X2|N5X4|O10|GOTO5|X9|N5X3", "7:X3 4/1/0", "3:X4 7/0/0", "end 8/0/0")
	runs(t, "M98P11|O10|N5X1|O11|M98P10|GOTO5|N5X2|O12|N5X3", "2:X1 5/2/0", "6:X2 8/1/0", "end 10/0/0")
}

// P10.2: the errors of a label.
func TestErrorsOfGoto(t *testing.T) {
	for text, want := range map[string]string{
		"5": errUnknown, "0": errUnknown, "-1": errUnknown, "1.5": errUnknown, "0.999999": errUnknown, "1.000001": errUnknown, "100000": errUnknown, "999999999": errUnknown,
		"[1/0]": errZero, "[SQRT[-1]]": errDomain, "#34": errUnknown, "#1": errUnknown, "[1/2]": errUnknown,
	} {
		runs(t, "GOTO"+text+"|N1X1", want+"1/0/0")
		runs(t, "IF[1]GOTO"+text+"|N1X1", want+"1/0/0")
		runs(t, "N1||IF[0]GOTO"+text+"|X1", "3:X1 4/0/0", "end 5/0/0")
		runs(t, "M98P7|N5|O7|N1|GOTO"+text, want+"4/1/0")
	}
}

// P10.2: conditions that are 0 and that are not.
func TestIf(t *testing.T) {
	for condition, jumps := range map[string]bool{"0": false, "1": true, "-1": true, "0.000001": true, "-0.000001": true, "#1": false, "2 GT 3": false, "3 GT 2": true, "999999999": true, "0*5": false} {
		want := []string{"1:X1 2/0/0", "2:X2 3/0/0", "end 4/0/0"}
		if jumps {
			want = []string{"2:X2 2/0/0", "end 3/0/0"}
		}
		runs(t, "IF["+condition+"]GOTO5|X1|N5X2", want...)
	}
	runs(t, "IF[1/0]GOTO5|N5X1", errZero+"1/0/0")
	runs(t, "IF[#34]GOTO5|N5X1", errUnknown+"1/0/0")
	// The condition comes first, and the label only if it holds.
	runs(t, "IF[1/0]GOTO[SQRT[-1]]", errZero+"1/0/0")
	runs(t, "IF[SQRT[-1]]GOTO[1/0]", errDomain+"1/0/0")
	runs(t, "IF[1]GOTO[1/0]", errZero+"1/0/0")
	runs(t, "IF[0]GOTO[1/0]", "end 2/0/0")
	runs(t, "#1=0|IF[#1]GOTO#34|X1", "2:X1 3/0/0", "end 4/0/0")
}

// P10.2: loops.
func TestWhile(t *testing.T) {
	runs(t, "#1=0|WHILE[#1LT3]DO1|X#1|#1=#1+1|END1|Y#1", "2:X0 3/0/0", "2:X1 7/0/0", "2:X2 11/0/0", "5:Y3 15/0/0", "end 16/0/0")
	runs(t, "WHILE[0]DO1|X1|END1|X2", "3:X2 2/0/0", "end 3/0/0")
	runs(t, "WHILE[0]DO1|X1|END1", "end 2/0/0")
	runs(t, "WHILE[0]DO1|END1|O5|X1", "end 2/0/0")
	runs(t, "M98P5|X1|O5|WHILE[0]DO1|X2|END1|O6|X3", "1:X1 5/0/0", "end 6/0/0")
	runs(t, "WHILE[0]DO1|END1|WHILE[0]DO1|END1|X1", "4:X1 3/0/0", "end 4/0/0")
	runs(t, "WHILE[1-#1]DO3|X#1|#1=1|END3|X2", "1:X0 2/0/0", "4:X2 6/0/0", "end 7/0/0")
	runs(t, "#1=0.000002|WHILE[#1]DO2|X1|#1=#1-0.000001|END2", "2:X1 3/0/0", "2:X1 7/0/0", "end 11/0/0")
	runs(t, "#1=-1|WHILE[#1]DO2|X1|#1=#1+1|END2", "2:X1 3/0/0", "end 7/0/0")
	runs(t, "WHILE[1]DO1|END1", errLimit+"20000/0/0")
	runs(t, "WHILE[1/0]DO1|END1", errZero+"1/0/0")
	runs(t, "WHILE[1/[1-#1]]DO1|X#1|#1=#1+1|END1", "1:X0 2/0/0", errZero+"5/0/0")
}

// P10.2: loops in one another and beside one another.
func TestNestedLoops(t *testing.T) {
	runs(t, "WHILE[#1LT2]DO1|#2=0|WHILE[#2LT2]DO2|X#1Y#2|#2=#2+1|END2|#1=#1+1|END1|Z1",
		"3:X0Y0 4/0/0", "3:X0Y1 8/0/0", "3:X1Y0 17/0/0", "3:X1Y1 21/0/0", "8:Z1 28/0/0", "end 29/0/0")
	runs(t, "WHILE[#1LT1]DO1|WHILE[#1LT1]DO2|WHILE[#1LT1]DO3|#1=1|X1|END3|X2|END2|X3|END1|X4", "4:X1 5/0/0", "6:X2 8/0/0", "8:X3 11/0/0", "10:X4 14/0/0", "end 15/0/0")
	runs(t, "WHILE[#1LT1]DO1|#1=1|END1|X1|WHILE[#1LT2]DO1|#1=2|END1|X2", "3:X1 5/0/0", "7:X2 10/0/0", "end 11/0/0")
	runs(t, "WHILE[#1LT2]DO1|WHILE[0]DO2|X1|END2|#1=#1+1|X2|END1", "5:X2 4/0/0", "5:X2 9/0/0", "end 12/0/0")
}

// P10.2: jumps out of loops, within them and to their beginnings are permitted.
func TestJumpsOfLoops(t *testing.T) {
	runs(t, "WHILE[1]DO1|GOTO5|END1|N5X1", "3:X1 3/0/0", "end 4/0/0")
	runs(t, "N5X1|WHILE[#1LT1]DO1|#1=1|GOTO5|END1|X2", "0:X1 1/0/0", "0:X1 5/0/0", "5:X2 7/0/0", "end 8/0/0")
	runs(t, "WHILE[1]DO1|WHILE[1]DO2|WHILE[1]DO3|GOTO5|END3|END2|END1|N5X1", "7:X1 5/0/0", "end 6/0/0")
	runs(t, "WHILE[#1LT1]DO1|WHILE[1]DO2|WHILE[1]DO3|GOTO5|END3|END2|N5#1=1|END1|X1", "8:X1 8/0/0", "end 9/0/0")
	runs(t, "WHILE[#1LT1]DO1|#1=1|GOTO5|X1|N5X2|END1", "4:X2 4/0/0", "end 7/0/0")
	runs(t, "WHILE[#1LT1]DO1|GOTO5|X1|N5#1=1|END1|X3", "5:X3 6/0/0", "end 7/0/0")
	runs(t, "WHILE[#1LT2]DO1|#1=#1+1|GOTO5|X1|N5END1|X2", "5:X2 10/0/0", "end 11/0/0")
	runs(t, "N5WHILE[#1LT2]DO1|#1=#1+1|GOTO5|END1|X2", "4:X2 8/0/0", "end 9/0/0")
	runs(t, "GOTO5|N5WHILE[#1LT1]DO1|#1=1|END1|X2", "4:X2 6/0/0", "end 7/0/0")
	runs(t, "WHILE[1]DO1|GOTO5|END1|N5WHILE[0]DO1|END1|X2", "5:X2 4/0/0", "end 5/0/0")
	runs(t, "WHILE[#1LT1]DO1|#1=1|GOTO5|X1|N5WHILE[0]DO2|END2|END1|X2", "7:X2 7/0/0", "end 8/0/0")
	runs(t, "WHILE[#1LT1]DO1|WHILE[#1LT1]DO2|#1=1|GOTO5|END2|X1|N5END1|X2", "7:X2 7/0/0", "end 8/0/0")
	runs(t, "WHILE[#1LT1]DO1|WHILE[#1LT1]DO2|#1=1|GOTO5|X1|N5END2|X3|END1|X2", "6:X3 7/0/0", "8:X2 10/0/0", "end 11/0/0")
}

// P10.2: jumps into loops.
func TestJumpsIntoLoops(t *testing.T) {
	for text, steps := range map[string]int{
		"GOTO5|WHILE[1]DO1|N5X1|END1":                                 1,
		"GOTO5|WHILE[1]DO1|N5END1":                                    1,
		"IF[1]GOTO5|WHILE[1]DO1|N5END1":                               1,
		"WHILE[0]DO1|N5X1|END1|GOTO5":                                 2,
		"WHILE[0]DO1|N5END1|GOTO5":                                    2,
		"WHILE[1]DO1|GOTO5|END1|WHILE[1]DO1|N5X1|END1":                2,
		"WHILE[1]DO1|GOTO5|END1|WHILE[1]DO2|N5END2":                   2,
		"WHILE[0]DO1|N5|END1|WHILE[1]DO1|GOTO5|END1":                  3,
		"WHILE[1]DO1|GOTO5|WHILE[1]DO2|N5X1|END2|END1":                2,
		"WHILE[1]DO1|GOTO5|WHILE[1]DO2|N5END2|END1":                   2,
		"WHILE[1]DO1|WHILE[0]DO2|N5END2|GOTO5|END1":                   3,
		"WHILE[1]DO1|WHILE[1]DO2|GOTO5|END2|WHILE[1]DO2|N5END2|END1":  3,
		"GOTO5|WHILE[1]DO1|WHILE[1]DO2|N5X1|END2|END1":                1,
		"GOTO5|WHILE[1]DO1|N5WHILE[1]DO2|X1|END2|END1":                1,
		"GOTO5|WHILE[1]DO1|WHILE[1]DO2|X1|END2|N5END1":                1,
		"O5|GOTO5|WHILE[1]DO1|N5X1|END1":                              2,
		"WHILE[1]DO1|WHILE[1]DO2|GOTO5|END2|END1|WHILE[1]DO2|N5|END2": 3,
	} {
		runs(t, text, errNesting+strconv.Itoa(steps)+"/0/0")
	}
	// A label that does not exist is found first.
	runs(t, "GOTO6|WHILE[1]DO1|N5X1|END1", errUnknown+"1/0/0")
	// A call within a loop is not in the loop.
	runs(t, "WHILE[1]DO1|M98P1|END1|O1|GOTO5|WHILE[1]DO1|N5|END1", errNesting+"4/1/0")
	// The caller's loops do not matter, nor those of a program that was called before.
	runs(t, "WHILE[#1LT1]DO1|#1=1|M98P1|END1|O1|WHILE[1]DO1|GOTO5|END1|N5X1", "8:X1 7/1/0", "end 11/0/0")
}

// P10.2: the api.MaxSteps-th step is taken, and no further one.
func TestLimitOfSteps(t *testing.T) {
	for _, x := range []struct {
		steps int
		text  string
		want  []string
	}{
		{19998, "X1|X2", []string{"+0:X1 19999/0/0", "+1:X2 20000/0/0", errLimit + "20000/0/0"}},
		{19999, "X1|X2", []string{"+0:X1 20000/0/0", errLimit + "20000/0/0"}},
		{20000, "X1|X2", []string{errLimit + "20000/0/0"}},
		{20001, "X1|X2", []string{errLimit + "20000/0/0"}},
		{19998, "X1", []string{"+0:X1 19999/0/0", "end 20000/0/0"}},
		{19999, "X1", []string{"+0:X1 20000/0/0", errLimit + "20000/0/0"}},
		// An empty line.
		{19997, "", []string{"end 19999/0/0"}},
		{19998, "", []string{"end 20000/0/0"}},
		{19999, "", []string{errLimit + "20000/0/0"}},
		{20000, "", []string{errLimit + "20000/0/0"}},
		{19999, "M99|X1", []string{"end 20000/0/0"}},
		{20000, "M99|X1", []string{errLimit + "20000/0/0"}},
		{19998, "M2|X1", []string{"+0:M2 19999/0/0", "end 19999/0/0"}},
		{19999, "M2|X1", []string{"+0:M2 20000/0/0", "end 20000/0/0"}},
		{19999, "X1M30Y2|X1", []string{"+0:X1M30Y2 20000/0/0", "end 20000/0/0"}},
		{20000, "M2", []string{errLimit + "20000/0/0"}},
		{20000, "M30", []string{errLimit + "20000/0/0"}},
		{19998, "||X1", []string{errLimit + "20000/0/0"}},
		{19999, "X[1/0]", []string{errZero + "20000/0/0"}},
		{20000, "X[1/0]", []string{errLimit + "20000/0/0"}},
		{19999, "GOTO77", []string{errUnknown + "20000/0/0"}},
		{20000, "GOTO77", []string{errLimit + "20000/0/0"}},
		{19999, "M98P5", []string{errLimit + "20000/1/0"}},
		{19999, "G65P5", []string{errLimit + "20000/1/1"}},
		{20000, "M98P5", []string{errLimit + "20000/0/0"}},
		{20000, "M98P4", []string{errLimit + "20000/0/0"}},
		{19999, "M98P4", []string{errUnknown + "20000/0/0"}},
		{19996, "M98P5", []string{"+2:X5 19999/1/0", errLimit + "20000/0/0"}},
		{19996, "M98P5L2", []string{"+2:X5 19999/1/0", errLimit + "20000/1/0"}},
		{19995, "M98P5", []string{"+2:X5 19998/1/0", "end 20000/0/0"}},
		{19997, "G65P5|X1", []string{"+3:X5 20000/1/1", errLimit + "20000/1/1"}},
		{19996, "G65P5|X1", []string{"+3:X5 19999/1/1", errLimit + "20000/0/0"}},
		{19995, "G65P5|X1", []string{"+3:X5 19998/1/1", "+1:X1 20000/0/0", errLimit + "20000/0/0"}},
		{19998, "WHILE[0]DO1|END1|X1", []string{"+2:X1 20000/0/0", errLimit + "20000/0/0"}},
		{19998, "WHILE[1]DO1|#1=1|END1", []string{errLimit + "20000/0/0"}},
	} {
		limited(t, x.steps, x.text, x.want)
	}
}

// limited compares the results of a text, behind a number of steps, with the wanted ones, in which + stands for the index of the first block of the text.
func limited(t *testing.T, steps int, text string, want []string) {
	t.Helper()
	ahead := spend(steps)
	first := strings.Count(ahead, "|")
	list := make([]string, len(want))
	for i, w := range want {
		list[i] = w
		if offset, rest, ok := strings.Cut(w, ":"); ok {
			n, _ := strconv.Atoi(offset)
			list[i] = strconv.Itoa(first+n) + ":" + rest
		}
	}
	text = ahead + text + "|O5|X5" + idle
	gives(t, start(t, text, false), list...)
	follow(t, build(t, read(t, text)), rules{})
}

// P10.2: a skipped block is a step, too.
func TestLimitOfSkippedSteps(t *testing.T) {
	skips(t, spend(19998)+"/X1|"+idle[1:], "end 20000/0/0")
	skips(t, spend(19999)+"/X1|"+idle[1:], errLimit+"20000/0/0")
	skips(t, spend(20000)+"/X1|"+idle[1:], errLimit+"20000/0/0")
}

// The consequences: no more than api.MaxSteps + 1 results without a repetition.
func TestMostResults(t *testing.T) {
	m := start(t, "N1"+strings.Repeat("X1|", 1998)+"X2M30", false)
	count := len(allResults(m))
	if count != 2000 {
		t.Errorf("the program has %d results", count)
	}
	m = start(t, "M98P1L999|M98P1L999|O1"+strings.Repeat("|X1", 1990), false)
	if count := len(allResults(m)); count > api.MaxSteps+1 || count < 19000 {
		t.Errorf("the program has %d results", count)
	}
}
