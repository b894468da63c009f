package modal_test

import (
	"math"
	"slices"
	"strconv"
	"strings"
	"testing"

	"cnc/api"
	"cnc/fixed"
	"cnc/modal"
)

const (
	most  = math.MaxInt
	least = math.MinInt
	one   = api.Million
	top   = api.MaxNum // the greatest valid number
)

// promised is the table of the groups, written another time.
const promised = `1 G0 G1 G2 G3 G33 G73 G74 G80 G81 G82 G83 G84 G85 G86 G89
2 G17 G18 G19
3 G90 G91
4 G20 G21
5 G94 G95
6 G40 G41 G42
7 G43 G44 G49
8 G98 G99
9 G54 G55 G56 G57 G58 G59
10 G61 G64
11 G15 G16
12 G68 G69
13 G53
14 G4 G10 G12 G13 G31 G52 G92
21 M0 M1 M2 M30
22 M3 M4 M5
23 M6
24 M7 M8 M9
25 M62 M63`

// code is a code of a letter.
type code struct{ letter, n int }

func (c code) String() string { return string(rune(c.letter)) + strconv.Itoa(c.n) }

// groups returns the codes of each group.
func groups() map[int][]code {
	table := map[int][]code{}
	for line := range strings.Lines(promised) {
		fields := strings.Fields(line)
		group := integer(fields[0])
		for _, s := range fields[1:] {
			table[group] = append(table[group], code{int(s[0]), integer(s[1:])})
		}
	}
	return table
}

// groupOf returns the group of each code that has one.
func groupOf() map[code]int {
	table := map[code]int{}
	for group, list := range groups() {
		for _, c := range list {
			table[c] = group
		}
	}
	return table
}

// codes returns all codes that have a group, always in the same order.
func codes() []code {
	table := groups()
	var list []code
	for group := range 26 {
		list = append(list, table[group]...)
	}
	return list
}

func integer(s string) int {
	n, err := strconv.Atoi(s)
	if err != nil {
		panic(err)
	}
	return n
}

// block returns the values of a text of words with spaces between them.
func block(text string) []api.Value {
	var list []api.Value
	for _, s := range strings.Fields(text) {
		digits, negative := strings.CutPrefix(s[1:], "-")
		n, err := fixed.Parse(digits)
		if err != api.OK {
			panic(s)
		}
		if negative {
			n = -n
		}
		list = append(list, api.Value{Letter: int(s[0]), N: n})
	}
	return list
}

// shown writes values in the form that block reads, if they have it.
func shown(l []api.Value) string {
	var words []string
	for _, v := range l {
		text := fixed.Format(v.N)
		if text == "" {
			text = "(" + strconv.Itoa(v.N) + " millionths)"
		}
		words = append(words, strconv.QuoteRune(rune(v.Letter))+text)
	}
	return strings.Join(words, " ")
}

// checked calls Check twice and fails the test unless it has the wanted error and l stays as it is.
func checked(t *testing.T, l []api.Value, want api.Errno) {
	t.Helper()
	before := slices.Clone(l)
	for range 2 {
		if err := modal.Check(l); err != want {
			t.Errorf("Check(%s) = %d, want %d", shown(before), err, want)
		}
	}
	if !slices.Equal(l, before) {
		t.Errorf("Check(%s) has changed the values to %s", shown(before), shown(l))
	}
}

// applied calls Apply twice and fails the test unless it has the wanted results and what it was given stays as it is.
func applied(t *testing.T, m api.Modal, l []api.Value, want api.Modal, wantErr api.Errno) {
	t.Helper()
	before, state := slices.Clone(l), m
	for range 2 {
		got, err := modal.Apply(m, l)
		if got != want || err != wantErr {
			t.Errorf("Apply(%+v, %s) =\n%+v, %d, want\n%+v, %d", m, shown(before), got, err, want, wantErr)
		}
	}
	if !slices.Equal(l, before) {
		t.Errorf("Apply of %s has changed the values to %s", shown(before), shown(l))
	}
	if m != state {
		t.Errorf("Apply of %s has changed the state", shown(before))
	}
}

// becomes fails the test unless a block has no error and changes the state as wanted, in every order of its values.
func becomes(t *testing.T, m api.Modal, text string, change func(m *api.Modal)) {
	t.Helper()
	want := m
	change(&want)
	for _, l := range orders(block(text)) {
		applied(t, m, l, want, api.OK)
	}
}

// refused fails the test unless Apply has the wanted error and nothing else, in every order of the values.
func refused(t *testing.T, m api.Modal, text string, want api.Errno) {
	t.Helper()
	for _, l := range orders(block(text)) {
		applied(t, m, l, api.Modal{}, want)
	}
}

// orders returns a list in all orders.
func orders(l []api.Value) [][]api.Value {
	if len(l) == 0 {
		return [][]api.Value{nil}
	}
	var found [][]api.Value
	for i, v := range l {
		for _, rest := range orders(slices.Delete(slices.Clone(l), i, i+1)) {
			found = append(found, append([]api.Value{v}, rest...))
		}
	}
	return found
}

// after returns the state after blocks, divided by | signs, that follow the start.
func after(t *testing.T, text string) api.Modal {
	t.Helper()
	m := modal.Start()
	for _, s := range strings.Split(text, "|") {
		next, err := modal.Apply(m, block(s))
		if err != api.OK {
			t.Fatalf("Apply(%+v, %s) = %d", m, s, err)
		}
		m = next
	}
	return m
}

// strange returns a state that differs from every other one in all fields, so that it shows which ones a block changes.
func strange() api.Modal {
	return api.Modal{
		Motion: 101, Plane: 102, Distance: 103, Units: 21, Feeding: 105, Cutter: 106, Length: 107, Return: 108, System: 109, Path: 110, Polar: 111, Turning: 112, Spindle: 113,
		Blend: 114, Feed: 115, Speed: 116, Tool: 117, Loaded: 118, H: 119, D: 120,
	}
}

// states returns states with which blocks are tested.
func states(t *testing.T) []api.Modal {
	t.Helper()
	wet, dry := strange(), strange()
	wet.Mist, wet.Flood, wet.Units = true, true, 20
	dry.Feed, dry.Units = least, 22
	return []api.Modal{
		modal.Start(), {}, strange(), wet, dry,
		after(t, "G1 G20 F10 S100 M3 M8|M7 T5 M6|G43 H6|G41 D7|G64 P0.02|T8|G91 G19 G99 G59 G16 G68 G95"),
	}
}
