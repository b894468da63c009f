package flow_test

import (
	"math/rand/v2"
	"slices"
	"strconv"
	"strings"
	"testing"

	"cnc/api"
	"cnc/flow"
	"cnc/library"
	"cnc/vars"
)

// host gives both stores the number of results, in a common and in a system variable.
func host(s *vars.Store, count int) {
	s.Set(100, count*one)
	s.Host(5070, count*one)
}

// followAll compares a machine with the model for all rows of up to most of the lines that are a library, and counts their ends.
func followAll(t *testing.T, text string, most int) map[api.Errno]int {
	t.Helper()
	lines := read(t, text)
	ends := map[api.Errno]int{}
	for length := 1; length <= most; length++ {
		for row := range rows(len(lines), length) {
			var list []api.Block
			for _, i := range row {
				list = append(list, lines[i])
			}
			if l, _, err := library.Build(list); err == api.OK {
				ends[follow(t, l, rules{skip: length%2 == 0, host: host})]++
			}
		}
	}
	return ends
}

// needs fails the test unless each of the errors has ended some programs.
func needs(t *testing.T, ends map[api.Errno]int, list ...api.Errno) {
	t.Helper()
	for _, err := range list {
		if ends[err] < 10 {
			t.Errorf("%d programs end with the error %d", ends[err], err)
		}
	}
}

// P10.2: all short programs with jumps and loops, whose conditions change with the results.
func TestAllShortPrograms(t *testing.T) {
	needs(t, followAll(t, "X1|N1X2|IF[#100LT3]GOTO1|WHILE[#100LT4]DO1|END1|WHILE[#100LT5]DO2|END2", 5), api.OK, api.ErrUnknown, api.ErrNesting, api.ErrLimit)
	needs(t, followAll(t, "N1X2|N2WHILE[#100LT4]DO1|N3END1|IF[#100LT2]GOTO1|IF[#100LT3]GOTO2|IF[#100LT3]GOTO3|/X1", 5), api.OK, api.ErrUnknown, api.ErrNesting, api.ErrLimit)
	needs(t, followAll(t, "N1X1|GOTO1|WHILE[#100LT3]DO1|X2M30|END1", 5), api.OK, api.ErrUnknown, api.ErrNesting, api.ErrLimit)
}

// P10.3 and P10.4: all short programs with calls and returns.
func TestAllShortCalls(t *testing.T) {
	needs(t, followAll(t, "X1|M98P1|G65P1L2A#1B3|M98P0|M99|M30|O1|O2|#1=#1+1|/M98P2L2", 4), api.OK, api.ErrUnknown, api.ErrLimit)
	needs(t, followAll(t, "X#1|M98P1L2|G65P2A#100|M99|O1|O2|#1=#1+1", 5), api.OK, api.ErrUnknown, api.ErrLimit)
}

// P10.2: jumps from each block of several loops to each other one.
func TestAllJumps(t *testing.T) {
	lines := strings.Split("X1|WHILE[#100LT9]DO1|X2|WHILE[#100LT5]DO2|X3|END2|X4|WHILE[#100LT7]DO3|WHILE[#100LT6]DO2|X5|END2|X6|END3|X7|END1|X8|WHILE[#100LT11]DO1|X9|END1|X10", "|")
	for i := range lines {
		lines[i] = "N" + strconv.Itoa(i+1) + lines[i]
	}
	ends := map[api.Errno]int{}
	for from := range len(lines) + 1 {
		for to := range len(lines) + 2 {
			for _, jump := range []string{"IF[#100LT12]GOTO", "IF[[#100MOD3]EQ1]GOTO", "GOTO"} {
				text := strings.Join(slices.Insert(slices.Clone(lines), from, jump+strconv.Itoa(to)), "|")
				ends[follow(t, build(t, read(t, text)), rules{host: host, results: 30})]++
			}
		}
	}
	needs(t, ends, api.OK, api.ErrUnknown, api.ErrNesting, api.ErrLimit)
}

// writer writes programs, the same ones in every run.
type writer struct {
	*rand.Rand
	lines   []string
	labels  []int // of the present program, which has not used them yet
	program int   // the number of the present program
	last    int   // the number of the last program
}

// pick returns one of several texts that are divided by | signs.
func (w *writer) pick(texts string) string {
	list := strings.Split(texts, "|")
	return list[w.IntN(len(list))]
}

// line adds a line, sometimes with a / sign and a label ahead of it.
func (w *writer) line(s string) {
	if len(w.labels) > 0 && w.IntN(3) == 0 {
		s = "N" + strconv.Itoa(w.labels[0]) + s
		w.labels = w.labels[1:]
	}
	if w.IntN(16) == 0 {
		s = "/" + s
	}
	w.lines = append(w.lines, s)
}

// condition returns a condition that holds only for some time if the variables grow.
func (w *writer) condition() string {
	return w.pick("#1|#2|#24|#100|#101|#102|#5070") + w.pick("LT|LE|LT|NE") + strconv.Itoa(w.IntN(9))
}

func (w *writer) label() string {
	return w.pick("1|2|3|4|1|2|3|4|[#101MOD4+1]")
}

// call returns a block that calls a program, most often one behind the present one.
func (w *writer) call() string {
	number := strconv.Itoa(w.last)
	if w.program+1 < w.last {
		number = strconv.Itoa(w.program + 1 + w.IntN(w.last-w.program))
	}
	if w.IntN(24) == 0 {
		number = w.pick("0|1|2|3|#101|77")
	}
	times := w.pick("||||L1|L2|L3|L[#101MOD3+1]")
	if w.IntN(2) == 0 {
		return "M98P" + number + times
	}
	return w.pick("|A#1|B[#2+1]C3|X#100") + "G65P" + number + times + w.pick("||K5|M7Z#101")
}

// effect returns a block that has no error and leads to the next one.
func (w *writer) effect() string {
	return w.pick("X#1|X#1Y#24|G1Z#100|#1=#1+1|#2=#2+#1|#1=#101|#24=#24+1|#101=#101+1|#102=#102+1|#[101+#101MOD2]=#100|X#5070|M3|G98|")
}

// rare returns a block that ends the execution, most often.
func (w *writer) rare() string {
	return w.pick("M99|M99|M99|M30|X5M2|X[1/0]|#34=1|#1=SQRT[-1]|#1=999999999*#5070*999999999|GOTO9|M98|M99P1|G65P1A1A1|M98P1P1|G65P1L1L2|M98P1L0|#5070=1|M98P2G1|GOTO[#1/2]")
}

// body adds the lines of a program or of a loop, whose number is not among those in taken.
func (w *writer) body(taken ...int) {
	for range 1 + w.IntN(6) {
		n := 1 + w.IntN(3)
		switch k := w.IntN(20); {
		case k < 2 && !slices.Contains(taken, n):
			w.line("WHILE[" + w.condition() + "]DO" + strconv.Itoa(n))
			w.body(append(taken, n)...)
			w.line(w.pick("#1=#1+1|#2=#2+1|#24=#24+1|#101=#101+1|#102=#102+1"))
			w.line("END" + strconv.Itoa(n))
		case k < 5:
			w.line("IF[" + w.condition() + "]GOTO" + w.label())
		case k < 9 && w.program < w.last:
			w.line(w.call())
		case k == 9:
			w.line(w.rare())
		default:
			w.line(w.effect())
		}
	}
}

// text returns a text with several programs.
func (w *writer) text() string {
	w.lines = nil
	w.last = 1 + w.IntN(4)
	for number := range w.last + 1 {
		w.program, w.labels = number, w.Perm(4)
		for i := range w.labels {
			w.labels[i]++
		}
		if number > 0 {
			w.line("O" + strconv.Itoa(number))
		}
		if number == 0 && w.IntN(4) == 0 {
			continue
		}
		w.body()
		for len(w.labels) > 0 && w.IntN(16) > 0 {
			w.line(w.effect())
		}
	}
	return strings.Join(w.lines, "|")
}

// P10.1 to P10.5: random programs of all blocks.
func TestRandomPrograms(t *testing.T) {
	w := &writer{Rand: rand.New(rand.NewPCG(10, 10))}
	ends := map[api.Errno]int{}
	for round := range 2500 {
		ends[follow(t, build(t, read(t, w.text())), rules{skip: round%2 == 0, host: host, results: 300})]++
	}
	needs(t, ends, api.OK, enough, api.ErrUnknown, api.ErrNesting, api.ErrLimit, api.ErrConflict, api.ErrZero, api.ErrMissing, api.ErrState, api.ErrDuplicate, api.ErrArg, api.ErrDomain, api.ErrRange)
}

// P10.1: copies of random programs, made behind some of their results, have the remaining ones.
func TestCopiesOfRandomPrograms(t *testing.T) {
	w := &writer{Rand: rand.New(rand.NewPCG(10, 20))}
	made := 0
	for range 1000 {
		m, _ := flow.New(build(t, read(t, w.text())), false)
		var list []string
		copies := map[int]*flow.Machine{}
		for i := range 40 {
			if w.IntN(4) == 0 {
				copies[i] = m.Copy()
			}
			list = append(list, next(m))
		}
		made += len(copies)
		for i, c := range copies {
			for _, want := range list[i:] {
				if got := next(c); got != want {
					t.Fatalf("a copy behind %d results gives %q, want %q", i, got, want)
				}
			}
			if i == len(list)-1 && !slices.Equal(contents(c.Vars()), contents(m.Vars())) {
				t.Fatalf("a copy behind %d results has other variables", i)
			}
		}
	}
	if made < 5000 {
		t.Errorf("%d copies were made", made)
	}
}
