package flow_test

import (
	"strconv"
	"testing"
)

// P10.3, P10.4: M98 without L and with one.
func TestPlainCall(t *testing.T) {
	runs(t, "M98P5|X1|O5|X2", "3:X2 3/1/0", "1:X1 5/0/0", "end 6/0/0")
	runs(t, "M98P5L1|X1|O5|X2", "3:X2 3/1/0", "1:X1 5/0/0", "end 6/0/0")
	runs(t, "L3P5M98|X1|O5|X2", "3:X2 3/1/0", "3:X2 6/1/0", "3:X2 9/1/0", "1:X1 11/0/0", "end 12/0/0")
	runs(t, "#1=5|M98P#1L[#1-3]|X1|O5|X2", "4:X2 4/1/0", "4:X2 7/1/0", "2:X1 9/0/0", "end 10/0/0")
	runs(t, "#1=2|M98P5L#1|M30|O5|X#1", "4:X2 4/1/0", "4:X2 7/1/0", "2:M30 9/0/0", "end 9/0/0")
	runs(t, "M98P5|O5", "end 4/0/0")
	runs(t, "M98P5L2|O5", "end 6/0/0")
	// A call at the end of a program, ahead of another one.
	runs(t, "M98P6|O5|X5|O6|X6", "4:X6 3/1/0", "end 5/0/0")
	// Programs ahead of the caller and behind it.
	runs(t, "O4|X4|M98P6|M98P5|M30|O5|X5|O6|X6|M98P5", "1:X4 2/0/0", "8:X6 5/1/0", "6:X5 8/2/0", "6:X5 13/1/0", "4:M30 15/0/0", "end 15/0/0")
	// A label ahead of the call.
	runs(t, "GOTO7|X1|N7M98P5|X3|O5|X2", "5:X2 4/1/0", "3:X3 6/0/0", "end 7/0/0")
}

// P10.4: L of api.MaxRepeat.
func TestMostRepetitions(t *testing.T) {
	for _, command := range []string{"M98", "G65"} {
		level := map[string]string{"M98": "0", "G65": "1"}[command]
		var want []string
		for i := 1; i <= 999; i++ {
			n := strconv.Itoa(i)
			want = append(want, "4:X"+n+" "+strconv.Itoa(4*i)+"/1/"+level)
		}
		want = append(want, "1:X999 3998/0/0", "end 3999/0/0")
		m := start(t, command+"P5L999|X#100|O5|#100=#100+1|X#100", false)
		gives(t, m, want...)
		follow(t, build(t, read(t, command+"P5L999|X#100|O5|#100=#100+1|X#100")), rules{})
	}
}

// P10.4: M99 returns, also ahead of the end of a program, and in a program that is called again.
func TestReturn(t *testing.T) {
	runs(t, "M99|X1", "end 1/0/0")
	runs(t, "X1|M99", "0:X1 1/0/0", "end 2/0/0")
	runs(t, "O10|M99|X1", "end 2/0/0")
	runs(t, "WHILE[1]DO1|M99|END1", "end 2/0/0")
	runs(t, "M98P5|X1|O5|M99|X2", "1:X1 4/0/0", "end 5/0/0")
	runs(t, "M98P5L3|X1|O5|X2|M99|X3", "3:X2 3/1/0", "3:X2 6/1/0", "3:X2 9/1/0", "1:X1 11/0/0", "end 12/0/0")
	runs(t, "G65P5L3A2|X#1|O5|X#1|#1=3|M99|X3", "3:X2 3/1/1", "3:X2 7/1/1", "3:X2 11/1/1", "1:X0 14/0/0", "end 15/0/0")
	runs(t, "M98P5L2|X1|O5|#100=#100+1|IF[#100GT1]GOTO7|M99|N7X2", "6:X2 9/1/0", "1:X1 11/0/0", "end 12/0/0")
	// A return out of loops.
	runs(t, "M98P5L2|X1|O5|WHILE[1]DO1|WHILE[1]DO2|X2|M99|END2|END1", "5:X2 5/1/0", "5:X2 10/1/0", "1:X1 12/0/0", "end 13/0/0")
}

// P10.4: calls within calls, repeated in one another.
func TestCallsWithinCalls(t *testing.T) {
	runs(t, "M98P5L2|X1|O5|X2|M98P6L2|X3|O6|X4",
		"3:X2 3/1/0", "7:X4 6/2/0", "7:X4 9/2/0", "5:X3 11/1/0",
		"3:X2 14/1/0", "7:X4 17/2/0", "7:X4 20/2/0", "5:X3 22/1/0", "1:X1 24/0/0", "end 25/0/0")
	runs(t, "M98P5|M98P6|M98P5|O5|X5|O6|M98P5|X6",
		"4:X5 3/1/0", "4:X5 9/2/0", "7:X6 11/1/0", "4:X5 15/1/0", "end 17/0/0")
	runs(t, "M98P5|X1|O5|G65P6|X2|O6|M98P7|X3|O7|G65P8|X4|O8|X5",
		"12:X5 9/4/2", "10:X4 11/3/1", "7:X3 13/2/1", "4:X2 15/1/0", "1:X1 17/0/0", "end 18/0/0")
	// A program that calls itself.
	runs(t, "M98P5|X#100|O5|#100=#100+1|IF[#100GE3]GOTO7|M98P5L2|N7X#100",
		"6:X3 13/3/0", "6:X4 18/3/0", "6:X4 20/2/0", "6:X5 25/2/0", "6:X5 27/1/0", "1:X5 29/0/0", "end 30/0/0")
	// A call within a loop goes on within the loop.
	runs(t, "WHILE[#1LT2]DO1|M98P5|#1=#1+1|END1|X1|O5|WHILE[#2LT#1+1]DO1|#2=#2+1|X#2|END1",
		"8:X1 6/1/0", "8:X2 17/1/0", "4:X1 24/0/0", "end 25/0/0")
}

// P10.3: M98 P0 calls the main program, from which a return is an ordinary one.
func TestCallOfMainProgram(t *testing.T) {
	runs(t, "#100=#100+1|X#100|IF[#100GE3]GOTO9|M98P0|X-#100|N9M99|X1",
		"1:X1 2/0/0", "1:X2 6/1/0", "1:X3 10/2/0", "4:X-3 13/1/0", "4:X-3 15/0/0", "end 16/0/0")
	runs(t, "#100=#100+1|X#100|IF[#100GE3]GOTO9|M98P0L2|N9",
		"1:X1 2/0/0", "1:X2 6/1/0", "1:X3 10/2/0", "1:X4 15/2/0", "1:X5 22/1/0", "end 27/0/0")
	runs(t, "O10|#100=#100+1|X#100|IF[#100GE2]GOTO9|M98P10|N9X9",
		"2:X1 3/0/0", "2:X2 8/1/0", "5:X9 10/1/0", "5:X9 12/0/0", "end 13/0/0")
	runs(t, "X#1|IF[#1]GOTO9|G65P0A7|N9Y#1", "0:X0 1/0/0", "0:X7 4/1/1", "3:Y7 6/1/1", "3:Y0 8/0/0", "end 9/0/0")
	runs(t, "IF[#100]GOTO9|M98P5|X1|N9X2|O5|#100=1|M98P0|X3", "3:X2 7/2/0", "7:X3 9/1/0", "2:X1 11/0/0", "3:X2 12/0/0", "end 13/0/0")
	// The end of the execution in a call of the main program.
	runs(t, "#100=#100+1|IF[#100GE3]GOTO9|M98P0|N9M30", "3:M30 9/2/0", "end 9/2/0")
	// A program 0 without blocks can be called.
	runs(t, "O10|X1|M98P0L3|X2", "1:X1 2/0/0", "3:X2 7/0/0", "end 8/0/0")
	runs(t, "O10|X1|G65P0A5|X#1", "1:X1 2/0/0", "3:X0 5/0/0", "end 6/0/0")
}

// P10.3: the arguments of G65 in their variables.
func TestArguments(t *testing.T) {
	runs(t, "G65P5A1B2C3D7E8F9H11|O5|A#1B#2C#3D#7E#8F#9H#11", "2:A1B2C3D7E8F9H11 3/1/1", "end 5/0/0")
	runs(t, "I4J5K6M13Q17R18S19T20G65P5|O5|I#4J#5K#6A#13Q#17R#18S#19T#20", "2:I4J5K6A13Q17R18S19T20 3/1/1", "end 5/0/0")
	runs(t, "U21V22G65P5L1W23X24Y25Z26|O5|U#21V#22W#23X#24Y#25Z#26", "2:U21V22W23X24Y25Z26 3/1/1", "end 5/0/0")
	runs(t, "#1=3|G65P5A[#1+1]B-#1|X#1|O5|X#1Y#2", "4:X4Y-3 4/1/1", "2:X3 6/0/0", "end 7/0/0")
	runs(t, "#1=3|#100=4|G65P5|X#1Y#100|O5|X#1Y#100|#1=5|#100=6", "5:X0Y4 5/1/1", "3:X3Y6 9/0/0", "end 10/0/0")
	runs(t, "G65P5M3M[0-3]|O5", errTwice+"1/0/0")
	// Codes and other commands of the machine are arguments, too.
	runs(t, "G65P5M98.5S3T4F5|O5|X#13Y#19Z#20A#9", "2:X98.5Y3Z4A5 3/1/1", "end 5/0/0")
}

// P10.3: M98 shares the local variables of the caller.
func TestLocalsOfPlainCall(t *testing.T) {
	runs(t, "#1=3|M98P5L2|X#1|O5|#1=#1+1|X#1", "5:X4 5/1/0", "5:X5 9/1/0", "2:X5 11/0/0", "end 12/0/0")
	runs(t, "G65P5A3|X#1|O5|M98P6L2|X#1|O6|#1=#1*2|X#1", "7:X6 6/2/1", "7:X12 10/2/1", "4:X12 12/1/1", "1:X0 14/0/0", "end 15/0/0")
}

// P10.4: each repetition of a G65 begins with its arguments, and the caller's variables are as they were.
func TestLocalsOfRepetitions(t *testing.T) {
	runs(t, "#1=9|#2=8|G65P5L3A5|X#1Y#2|O5|X#1Y#2|#1=#1+1|#2=7|Z#1",
		"5:X5Y0 5/1/1", "8:Z6 8/1/1", "5:X5Y0 11/1/1", "8:Z6 14/1/1", "5:X5Y0 17/1/1", "8:Z6 20/1/1", "3:X9Y8 22/0/0", "end 23/0/0")
	runs(t, "#1=1|G65P5L2A[#1+1]|X#1|O5|X#1|G65P6L2A[#1*10]B#1|X#1|O6|X#1Y#2|#1=0|#2=0",
		"4:X2 4/1/1", "8:X20Y2 7/2/2", "8:X20Y2 12/2/2", "6:X2 16/1/1",
		"4:X2 19/1/1", "8:X20Y2 22/2/2", "8:X20Y2 27/2/2", "6:X2 31/1/1", "2:X1 33/0/0", "end 34/0/0")
	// The arguments are those of the call, though the variables that they came from have changed.
	runs(t, "#100=1|G65P5L3A#100|X#100|O5|#100=#100+1|X#1Y#100", "5:X1Y2 5/1/1", "5:X1Y3 9/1/1", "5:X1Y4 13/1/1", "2:X4 15/0/0", "end 16/0/0")
	// Without arguments.
	runs(t, "#1=9|G65P5L2|X#1|O5|X#1|#1=4", "4:X0 4/1/1", "4:X0 8/1/1", "2:X9 11/0/0", "end 12/0/0")
}
