package library_test

import (
	"slices"
	"testing"

	"cnc/api"
	"cnc/library"
)

// finds fails the test unless the program with the number has the index, or none if that is -1.
func finds(t *testing.T, l api.Library, number, want int) {
	t.Helper()
	if i, ok := library.Find(l, number); i != max(want, 0) || ok != (want >= 0) {
		t.Errorf("Find(%d) = %d, %v, want %d", number, i, ok, want)
	}
}

// labels fails the test unless the block of the program with the label has the index, or none if that is -1.
func labels(t *testing.T, l api.Library, program, label, want int) {
	t.Helper()
	if at, ok := library.Label(l, program, label); at != max(want, 0) || ok != (want >= 0) {
		t.Errorf("Label(%d, %d) = %d, %v, want %d", program, label, at, ok, want)
	}
}

// P9.2: Find at the numbers of programs and at others.
func TestFind(t *testing.T) {
	for _, text := range []string{"", "G1", "N5|N7"} {
		l := build(t, text)
		finds(t, l, 0, 0)
		for _, n := range append([]int{1, 5, 7, api.MaxLabel}, extremes...) {
			finds(t, l, n, -1)
		}
	}
	l := build(t, "N6|O5|G1|N8O3|O99999|M99|O1")
	for number, want := range map[int]int{0: 0, 5: 1, 3: 2, 99999: 3, 1: 4, 2: -1, 4: -1, 6: -1, 8: -1, 99998: -1} {
		finds(t, l, number, want)
	}
	for _, n := range extremes {
		finds(t, l, n, -1)
	}
	for _, text := range []string{"O5", "O5|O3", "O3|O5|G1"} {
		finds(t, build(t, text), 0, 0)
	}
	finds(t, build(t, "O5"), 5, 1)
	finds(t, build(t, "O5"), 1, -1)
}

// P9.2: Label at the labels of each program and at others.
func TestLabel(t *testing.T) {
	l := build(t, "N1|G1|N3G1|N2O5|N1WHILE1|N9|N4END1|O6|N1O7|N99999|N3")
	want := map[[2]int]int{{0, 1}: 0, {0, 3}: 2, {1, 2}: 3, {1, 1}: 4, {1, 9}: 5, {1, 4}: 6, {3, 1}: 8, {3, 99999}: 9, {3, 3}: 10}
	for _, program := range append([]int{0, 1, 2, 3, 4, 5, 6, 7, 8, 11}, extremes...) {
		for _, label := range append([]int{0, 1, 2, 3, 4, 5, 6, 7, 8, 9, 10, 99998, 99999}, extremes...) {
			at, ok := want[[2]int{program, label}]
			if !ok {
				at = -1
			}
			labels(t, l, program, label, at)
		}
	}
	empty := build(t, "")
	for _, program := range append([]int{0, 1}, extremes...) {
		labels(t, empty, program, 0, -1)
		labels(t, empty, program, 1, -1)
	}
	// The program 0 has no blocks here, though there are some.
	late := build(t, "N1O5|N2|O6|N3")
	labels(t, late, 0, 1, -1)
	labels(t, late, 0, 2, -1)
	labels(t, late, 1, 1, 0)
	labels(t, late, 1, 2, 1)
	labels(t, late, 1, 3, -1)
	labels(t, late, 2, 2, -1)
	labels(t, late, 2, 3, 3)
	labels(t, late, 3, 3, -1)
}

// P9.2: Of at the blocks of each program, with the first and the last one, and elsewhere.
func TestOf(t *testing.T) {
	for text, want := range map[string][]int{
		"":                       nil,
		"G1":                     {0},
		"G1|X1|N4":               {0, 0, 0},
		"O5":                     {1},
		"O5|G1":                  {1, 1},
		"G1|O5":                  {0, 1},
		"|O5|O4|G1|G1|O3|G1":     {0, 1, 2, 2, 2, 3, 3},
		"O9|O8|N1O7|WHILE1|END1": {1, 2, 3, 3, 3},
		"WHILE1|END1|O1|WHILE1|WHILE3|END3|END1|M99|O2": {0, 0, 1, 1, 1, 1, 1, 1, 2},
	} {
		l := build(t, text)
		for at, program := range want {
			if got := library.Of(l, at); got != program {
				t.Errorf("Of(%q, %d) = %d, want %d", text, at, got, program)
			}
		}
		for _, at := range append([]int{len(want), len(want) + 1}, extremes...) {
			if got := library.Of(l, at); got != -1 {
				t.Errorf("Of(%q, %d) = %d, want -1", text, at, got)
			}
		}
	}
}

// P9.3: Inside at the beginning of a loop, in it, at its end, behind it, and where there is no block.
func TestInside(t *testing.T) {
	for text, want := range map[string][][]int{
		"":                                 {},
		"G1":                               {{}},
		"WHILE1|END1":                      {{}, {0}},
		"G1|WHILE1|G1|X1|END1|G1":          {{}, {}, {1}, {1}, {1}, {}},
		"WHILE1|END1|WHILE1|END1":          {{}, {0}, {}, {2}},
		"WHILE2|WHILE1|END1|END2":          {{}, {0}, {0, 1}, {0}},
		"WHILE3|G1|WHILE1|G1|END1|G1|END3": {{}, {0}, {0}, {0, 2}, {0, 2}, {0}, {0}},
		"WHILE1|WHILE2|WHILE3|G1|END3|END2|END1|G1":                   {{}, {0}, {0, 1}, {0, 1, 2}, {0, 1, 2}, {0, 1}, {0}, {}},
		"WHILE3|WHILE2|END2|WHILE2|WHILE1|END1|END2|END3":             {{}, {0}, {0, 1}, {0}, {0, 3}, {0, 3, 4}, {0, 3}, {0}},
		"WHILE1|END1|O5|G1|WHILE1|G1|END1|O6|WHILE2|WHILE1|END1|END2": {{}, {0}, {}, {}, {}, {4}, {4}, {}, {}, {8}, {8, 9}, {8}},
	} {
		l := build(t, text)
		for at, loops := range want {
			if got := library.Inside(l, at); !slices.Equal(got, loops) {
				t.Errorf("Inside(%q, %d) = %v, want %v", text, at, got, loops)
			}
		}
		for _, at := range append([]int{len(want), len(want) + 1}, extremes...) {
			if got := library.Inside(l, at); len(got) > 0 {
				t.Errorf("Inside(%q, %d) = %v, want none", text, at, got)
			}
		}
	}
}

// P9.2 and P9.3: a library of api.MaxLines blocks.
func TestPlacesOfManyBlocks(t *testing.T) {
	list := plain(api.MaxLines)
	list[0] = api.Block{Kind: api.BlockWhile, N: 3}
	list[1] = api.Block{Kind: api.BlockWhile, N: 1}
	list[997] = api.Block{Kind: api.BlockEnd, N: 1}
	list[998] = api.Block{Kind: api.BlockEnd, N: 3, Label: 7}
	list[999] = api.Block{Kind: api.BlockProgram, N: api.MaxLabel, Label: 8}
	list[api.MaxLines-1].Label = 7
	l, _, _ := library.Build(list)
	labels(t, l, 0, 7, 998)
	labels(t, l, 0, 8, -1)
	labels(t, l, 1, 7, api.MaxLines-1)
	labels(t, l, 1, 8, 999)
	finds(t, l, api.MaxLabel, 1)
	place(t, l, 0, 0)
	place(t, l, 1, 0, 0)
	place(t, l, 2, 0, 0, 1)
	place(t, l, 500, 0, 0, 1)
	place(t, l, 997, 0, 0, 1)
	place(t, l, 998, 0, 0)
	place(t, l, 999, 1)
	place(t, l, api.MaxLines-1, 1)
	place(t, l, api.MaxLines, -1)
}

// R1: libraries that Build has not returned. Whatever the functions return, they return.
func TestForeignLibraries(t *testing.T) {
	bounds := append([]int{0, 1, 2, 3, 4, 1 << 40}, extremes...)
	blocks := []api.Block{{Label: 1}, {Kind: 9, Label: -1}, {Label: most}}
	libraries := []api.Library{{}, {Blocks: blocks}, {Mate: bounds}, {Blocks: blocks, Mate: bounds}, {Blocks: blocks, Mate: []int{5}}}
	for _, first := range bounds {
		for _, end := range bounds {
			libraries = append(libraries, api.Library{Blocks: blocks, Programs: []api.Program{{Number: end, First: first, End: end}}, Mate: []int{first, end}})
		}
	}
	for _, l := range libraries {
		before := copyLibrary(l)
		for _, n := range bounds {
			library.Find(l, n)
			library.Of(l, n)
			library.Inside(l, n)
			for _, label := range bounds {
				library.Label(l, n, label)
			}
		}
		if !sameLibrary(l, before) {
			t.Errorf("the library %v has become %v", before, l)
		}
	}
}
