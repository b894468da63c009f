package modal_test

import (
	"slices"
	"testing"

	"cnc/api"
	"cnc/modal"
)

// strangeLetters are letters that have no codes, with the neighbors of those that have.
var strangeLetters = []int{0, 1, -1, 'F', 'H', 'L', 'N', 'A', 'Z', '@', '[', 'g', 'm', 'x', 'G' + 128, 'G' + 256, 'M' + 256, -'G', -'M', 1<<32 + 'G', 1<<32 + 'M', -1<<32 + 'G', 1<<62 + 'M', most, least, least + 'G'}

// P11.1: each code of each group.
func TestGroupOfEachCode(t *testing.T) {
	count := 0
	for group, list := range groups() {
		for _, c := range list {
			count++
			if got := modal.Group(c.letter, c.n); got != group {
				t.Errorf("Group of %v = %d, want %d", c, got, group)
			}
		}
	}
	if count != 65 {
		t.Errorf("there are %d codes", count)
	}
}

// P11.1: all codes around those that have a group, and some that are far away.
func TestGroupOfOtherCodes(t *testing.T) {
	table := groupOf()
	list := []int{most, most - 1, least, least + 1, 1 << 31, 1<<32 + 1, 1<<32 + 17, -1<<32 + 3, 1 << 62, 1<<58 + 1, one, 2 * one, 17 * one, 1 << 8, 1<<8 + 1, 1<<16 + 4}
	for n := -300; n < 1300; n++ {
		list = append(list, n)
	}
	for _, n := range list {
		for _, letter := range []int{'G', 'M'} {
			if got, want := modal.Group(letter, n), table[code{letter, n}]; got != want {
				t.Errorf("Group(%c, %d) = %d, want %d", letter, n, got, want)
			}
		}
	}
}

// P11.1: the codes of letters that have none.
func TestGroupOfOtherLetters(t *testing.T) {
	for letter := -300; letter < 600; letter++ {
		if letter == 'G' || letter == 'M' {
			continue
		}
		for n := -10; n < 110; n++ {
			if got := modal.Group(letter, n); got != 0 {
				t.Errorf("Group(%d, %d) = %d", letter, n, got)
			}
		}
	}
	for _, letter := range strangeLetters {
		for _, c := range codes() {
			if got := modal.Group(letter, c.n); got != 0 {
				t.Errorf("Group(%d, %d) = %d", letter, c.n, got)
			}
		}
	}
}

// has fails the test unless Has has the wanted result, and the values stay as they are.
func has(t *testing.T, l []api.Value, letter, n int, want bool) {
	t.Helper()
	before := slices.Clone(l)
	if got := modal.Has(l, letter, n); got != want {
		t.Errorf("Has(%s, %d, %d) = %v", shown(l), letter, n, got)
	}
	if !slices.Equal(l, before) {
		t.Errorf("Has(%s) has changed the values to %s", shown(before), shown(l))
	}
}

// P11.1
func TestHas(t *testing.T) {
	l := block("X5 G1 M8 G2.5 F1 G-3 M30 G1 G0.000001 M6.999999 Y0")
	for _, letter := range []int{'G', 'M', 'X', 'F', 'Y', 'Z'} {
		for n := -40; n < 110; n++ {
			want := letter == 'G' && (n == 1 || n == -3) || letter == 'M' && (n == 8 || n == 30)
			has(t, l, letter, n, want)
			has(t, nil, letter, n, false)
		}
	}
}

// P11.1: each code, ahead of, among and behind other values.
func TestHasEachCode(t *testing.T) {
	list := codes()
	for i, c := range list {
		own := api.Value{Letter: c.letter, N: c.n * one}
		other := list[(i+17)%len(list)]
		rest := []api.Value{{Letter: other.letter, N: other.n * one}, {Letter: 'P', N: c.n * one}}
		for at := range len(rest) + 1 {
			l := slices.Insert(slices.Clone(rest), at, own)
			has(t, l, c.letter, c.n, true)
			has(t, l, other.letter, other.n, true)
		}
		has(t, rest, c.letter, c.n, false)
		// The same code of the other letter is none of this one.
		has(t, []api.Value{own}, 'G'+'M'-c.letter, c.n, false)
	}
}

// P11.1: a code need not have a group, but it stands for an integer.
func TestHasOtherCodes(t *testing.T) {
	for _, n := range []int{5, 65, 98, 999, -1, 1000000, top/one - 1, top / one, -top / one} {
		has(t, []api.Value{{Letter: 'G', N: n * one}}, 'G', n, true)
		has(t, []api.Value{{Letter: 'M', N: n * one}}, 'M', n, true)
		for _, d := range []int{1, -1, one / 2, one - 1} {
			for near := n - 1; near <= n+1; near++ {
				has(t, []api.Value{{Letter: 'G', N: n*one + d}}, 'G', near, false)
				has(t, []api.Value{{Letter: 'M', N: n*one + d}}, 'M', near, false)
			}
		}
	}
}

// P11.1: numbers that are not valid stand for no integer, and no code is so great that its number is another one.
func TestHasOfGreatNumbers(t *testing.T) {
	for _, n := range []int{top + one, -top - one, 2 * top, 4000 * top, -4000 * top, most / one * one, least / one * one} {
		l := []api.Value{{Letter: 'G', N: n}, {Letter: 'M', N: n}}
		has(t, l, 'G', n/one, false)
		has(t, l, 'M', n/one, false)
		has(t, l, 'G', 0, false)
		has(t, l, 'M', 0, false)
	}
	for _, n := range []int{1 << 58, -1 << 58, 1 << 62, least} {
		has(t, block("G1 M1 G0 M0"), 'G', n+1, false)
		has(t, block("G1 M1 G0 M0"), 'M', n+1, false)
		has(t, block("G1 M1 G0 M0"), 'G', n, false)
	}
}

// P11.1: values with a letter other than G and M are no codes.
func TestHasOfOtherLetters(t *testing.T) {
	for _, letter := range strangeLetters {
		l := []api.Value{{Letter: letter, N: one}, {Letter: letter, N: 3 * one}}
		for n := range 4 {
			has(t, l, letter, n, false)
			has(t, l, 'G', n, false)
			has(t, l, 'M', n, false)
			has(t, block("G0 G1 G2 G3 M0 M1 M2 M3"), letter, n, false)
		}
	}
}

// finds fails the test unless Find has the wanted results, and the values stay as they are.
func finds(t *testing.T, l []api.Value, letter, want int, found bool) {
	t.Helper()
	before := slices.Clone(l)
	if n, ok := modal.Find(l, letter); n != want || ok != found {
		t.Errorf("Find(%s, %d) = %d, %v, want %d, %v", shown(l), letter, n, ok, want, found)
	}
	if !slices.Equal(l, before) {
		t.Errorf("Find(%s) has changed the values to %s", shown(before), shown(l))
	}
}

// P11.1
func TestFind(t *testing.T) {
	l := block("X5 G1 Y-0.25 Y7 G2 X6 M30 Z0 Z1")
	for letter := -10; letter < 300; letter++ {
		switch letter {
		case 'X':
			finds(t, l, letter, 5*one, true)
		case 'Y':
			finds(t, l, letter, -one/4, true)
		case 'Z':
			finds(t, l, letter, 0, true)
		case 'G':
			finds(t, l, letter, one, true)
		case 'M':
			finds(t, l, letter, 30*one, true)
		default:
			finds(t, l, letter, 0, false)
		}
		finds(t, nil, letter, 0, false)
	}
}

// P11.1: Find asks neither for the letter nor for the number.
func TestFindOfOtherValues(t *testing.T) {
	numbers := []int{0, 1, -1, one, top, -top, top + 1, -top - 1, most, least}
	for i, letter := range strangeLetters {
		n, next := numbers[i%len(numbers)], numbers[(i+1)%len(numbers)]
		finds(t, []api.Value{{Letter: letter, N: n}}, letter, n, true)
		finds(t, []api.Value{{Letter: 'Y', N: 3}, {Letter: letter, N: n}, {Letter: letter, N: next}}, letter, n, true)
		finds(t, []api.Value{{Letter: letter, N: n}}, 'Y', 0, false)
		finds(t, block("G1 X2 M3"), 'g', 0, false)
	}
}

// P11.2
func TestStart(t *testing.T) {
	want := api.Modal{
		Motion: 80, Plane: 17, Distance: 90, Units: 21, Feeding: 94, Cutter: 40, Length: 49, Return: 98, System: 54, Path: 61, Polar: 15, Turning: 69, Spindle: 5,
		Mist: false, Flood: false, Blend: 0, Feed: 0, Speed: 0, Tool: 0, Loaded: 0, H: 0, D: 0,
	}
	m := modal.Start()
	if m != want {
		t.Errorf("Start() = %+v, want %+v", m, want)
	}
	// A state that its receiver changes is not that of the next call.
	m.Motion, m.Mist, m.H = 1, true, 3
	if m = modal.Start(); m != want {
		t.Errorf("a later Start() = %+v, want %+v", m, want)
	}
	applied(t, m, nil, want, api.OK)
}
