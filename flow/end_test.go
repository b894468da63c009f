package flow_test

import "testing"

// ending is a text, the result with which it ends behind others, and the variables behind it.
type ending struct {
	text, last string
	variables  map[int]int
}

// endings contains each kind of end and of error, in the main program and in others.
var endings = []ending{
	{"#1=1|#100=2", "end 3/0/0", map[int]int{1: 1, 100: 2}},
	{"#1=1|M99|#1=2", "end 2/0/0", map[int]int{1: 1}},
	{"#1=1|M2|#1=2", "end 2/0/0", map[int]int{1: 1}},
	{"#1=1|X1M30Y2|#1=2", "end 2/0/0", map[int]int{1: 1}},
	{"#1=1|M98P5|#1=2|O5|#100=3|M30|#100=4", "end 5/1/0", map[int]int{1: 1, 100: 3}},
	{"#1=1|G65P5L2A7|#1=2|O5|#2=#1+1|#100=3|M2|#100=4", "end 6/1/1", map[int]int{1: 7, 2: 8, 100: 3}},
	{"#1=1|G65P5A7|#2=2|O5|#2=#1+1|#100=3", "end 8/0/0", map[int]int{1: 1, 2: 2, 100: 3}},
	{"#1=1|#2=1/0|#1=2", errZero + "2/0/0", map[int]int{1: 1, 2: 0}},
	{"#1=1|#1=SQRT[-1]|#1=2", errDomain + "2/0/0", map[int]int{1: 1}},
	{"#1=1|#1=999999999*999999999|#1=2", errRange + "2/0/0", map[int]int{1: 1}},
	{"#1=1|#34=5|#1=2", errUnknown + "2/0/0", map[int]int{1: 1}},
	{"#1=1|#1.5=5|#1=2", errUnknown + "2/0/0", map[int]int{1: 1, 2: 0}},
	{"#1=1|#5021=5|#1=2", errState + "2/0/0", map[int]int{1: 1, 5021: 0}},
	{"#1=1|GOTO9|#1=2", errUnknown + "2/0/0", map[int]int{1: 1}},
	{"#1=1|GOTO5|#1=2|WHILE[1]DO1|N5#1=3|END1", errNesting + "2/0/0", map[int]int{1: 1}},
	{"#1=1|IF[#34]GOTO5|#1=2|N5", errUnknown + "2/0/0", map[int]int{1: 1}},
	{"#1=1|WHILE[#34]DO1|#1=2|END1|#1=3", errUnknown + "2/0/0", map[int]int{1: 1}},
	{"#1=1|X1Y[1/0]|#1=2", errZero + "2/0/0", map[int]int{1: 1}},
	{"#1=1|M98M98P5|#1=2|O5|#1=3", errConflict + "2/0/0", map[int]int{1: 1}},
	{"#1=1|M98P5X1|#1=2|O5|#1=3", errConflict + "2/0/0", map[int]int{1: 1}},
	{"#1=1|M98P5P5|#1=2|O5|#1=3", errTwice + "2/0/0", map[int]int{1: 1}},
	{"#1=1|M98|#1=2|O5|#1=3", errMissing + "2/0/0", map[int]int{1: 1}},
	{"#1=1|M98P6|#1=2|O5|#1=3", errUnknown + "2/0/0", map[int]int{1: 1}},
	{"#1=1|M98P5L0|#1=2|O5|#1=3", errArg + "2/0/0", map[int]int{1: 1}},
	{"#1=1|G65P5L0A7|#1=2|O5|#1=3", errArg + "2/0/0", map[int]int{1: 1}},
	{"#1=1|G65P5A7A8|#1=2|O5|#1=3", errTwice + "2/0/0", map[int]int{1: 1}},
	{"#1=1|G65P5G1A7|#1=2|O5|#1=3", errConflict + "2/0/0", map[int]int{1: 1}},
	{"#1=1|M99X1|#1=2", errConflict + "2/0/0", map[int]int{1: 1}},
	{"#1=1|M98P5|#1=2|O5|#100=3|M99X1|#100=4", errConflict + "5/1/0", map[int]int{1: 1, 100: 3}},
	{"#1=1|G65P5A7|#1=2|O5|#100=3|G65P5A8A9|#100=4", errTwice + "5/1/1", map[int]int{1: 7, 100: 3}},
	{"#1=1|G65P5A7|#1=2|O5|#1=#1+1|#2=#34|#1=4", errUnknown + "5/1/1", map[int]int{1: 8, 2: 0}},
	{"M98P5|O5|#100=#100+1|M98P5", errLimit + "25/8/0", map[int]int{100: 8}},
	{"G65P5A1|O5|#100=#100+1|G65P5A[#1+1]", errLimit + "25/8/8", map[int]int{1: 8, 100: 8}},
	{"#1=1|N1#100=#100+1|GOTO1", errLimit + "20000/0/0", map[int]int{1: 1, 100: 10000}},
	{"#1=1|G65P5A4|O5|#100=2|N1GOTO1", errLimit + "20000/1/1", map[int]int{1: 4, 100: 2}},
	{spend(19998) + "#1=1|#1=2|#1=3" + idle, errLimit + "20000/0/0", map[int]int{1: 2}},
	{spend(19998) + "#1=1|M99|#1=3" + idle, "end 20000/0/0", map[int]int{1: 1}},
	{spend(19998) + "#1=1|X1M30|#1=3" + idle, "end 20000/0/0", map[int]int{1: 1}},
	{spend(19998) + "#1=1" + idle, "end 20000/0/0", map[int]int{1: 1}},
	{spend(19998) + "#1=1|X[1/0]|#1=3" + idle, errZero + "20000/0/0", map[int]int{1: 1}},
	{spend(19995) + "G65P5A7|O5|#1=1|#1=2|#1=3|#1=4" + idle, errLimit + "20000/1/1", map[int]int{1: 3}},
}

// P10.5: the end or the error remains, with the steps, the calls and the variables.
func TestEndings(t *testing.T) {
	for _, x := range endings {
		m := start(t, x.text, false)
		list := allResults(m)
		if last := list[len(list)-1]; last != x.last {
			t.Errorf("%.100q ends with %q, want %q", x.text, last, x.last)
		}
		stays(t, m, x.last)
		for n, want := range x.variables {
			reads(t, m.Vars(), n, want*one)
		}
		stays(t, m.Copy(), x.last)
		follow(t, build(t, read(t, x.text)), rules{})
	}
}

// P10.5: what the host does to the variables behind an end does not matter, and remains.
func TestHostBehindEnd(t *testing.T) {
	for _, x := range endings {
		m := start(t, x.text, false)
		allResults(m)
		for i := range 3 {
			put(t, m.Vars(), 1, 70+i)
			put(t, m.Vars(), 100, 80+i)
			put(t, m.Vars(), 5070, 90+i)
			stays(t, m, x.last)
			reads(t, m.Vars(), 1, 70+i)
			reads(t, m.Vars(), 100, 80+i)
			reads(t, m.Vars(), 5070, 90+i)
		}
	}
}

// P10.5: an end and an error come only once they are reached, and the results ahead of them are not lost.
func TestResultsAheadOfError(t *testing.T) {
	runs(t, "X1|X2|X[1/0]|X3", "0:X1 1/0/0", "1:X2 2/0/0", errZero+"3/0/0")
	runs(t, "X1|X2M30|X[1/0]", "0:X1 1/0/0", "1:X2M30 2/0/0", "end 2/0/0")
	runs(t, "X1|M98P5|X2|O5|X3|GOTO9", "0:X1 1/0/0", "4:X3 4/1/0", errUnknown+"5/1/0")
	// The error of a block that is not reached does not matter.
	runs(t, "GOTO5|X[1/0]|M98P77|GOTO78|#34=1|M99X1|N5X1|M99|X[1/0]", "6:X1 2/0/0", "end 3/0/0")
}
