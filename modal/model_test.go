package modal_test

import (
	"math/rand/v2"
	"slices"
	"testing"

	"cnc/api"
	"cnc/fixed"
	"cnc/modal"
)

// model follows Check and Apply with the table of the groups, and by asking for each word and code of a block where it is needed.
type model map[code]int

// group returns the group of a value, or 0.
func (table model) group(v api.Value) int {
	if v.N%one != 0 || v.N > top || v.N < -top {
		return 0
	}
	return table[code{v.Letter, v.N / one}]
}

// check follows Check.
func (table model) check(l []api.Value) api.Errno {
	for i, v := range l {
		isCode := v.Letter == 'G' || v.Letter == 'M'
		same := func(w api.Value) bool {
			return !isCode && w.Letter == v.Letter || isCode && table.group(w) == table.group(v)
		}
		earlier := slices.ContainsFunc(l[:i], same)
		switch {
		case v.Letter < 65 || v.Letter > 90 || v.N > top || v.N < -top:
			return api.ErrArg
		case isCode && table.group(v) == 0:
			return api.ErrUnknown
		case isCode && earlier:
			return api.ErrConflict
		case earlier:
			return api.ErrDuplicate
		}
	}
	if _, ok := table.find(l, 14); ok {
		_, moves := table.find(l, 1)
		_, plain := table.find(l, 13)
		if moves || plain {
			return api.ErrConflict
		}
	}
	return api.OK
}

// find returns the code of a group in a block.
func (table model) find(l []api.Value, group int) (int, bool) {
	for _, v := range l {
		if table.group(v) == group {
			return v.N / one, true
		}
	}
	return 0, false
}

// word returns the number of a word of a block.
func word(l []api.Value, letter int) (int, bool) {
	at := slices.IndexFunc(l, func(v api.Value) bool { return v.Letter == letter })
	if at < 0 {
		return 0, false
	}
	return l[at].N, true
}

// errors returns the error of the words of a block, with the units after it.
func (table model) errors(l []api.Value, units int) api.Errno {
	if n, ok := word(l, 'F'); ok {
		if units != 20 && units != 21 {
			return api.ErrArg
		}
		if _, err := expectedRate(n, map[int]int{20: 25400, 21: 1000}[units]); err != api.OK {
			return err
		}
	}
	for letter, limit := range numberWords {
		if n, ok := word(l, int(letter[0])); ok && (n < 0 || n > limit*one || n%one != 0) {
			return api.ErrArg
		}
	}
	n, ok := word(l, 'P')
	if path, _ := table.find(l, 10); !ok || path != 64 {
		return api.OK
	}
	length, err := fixed.Length(n, units)
	if err == api.OK && (length < 0 || length > 1000) {
		return api.ErrRange
	}
	return err
}

// apply follows Apply.
func (table model) apply(m api.Modal, l []api.Value) (api.Modal, api.Errno) {
	if err := table.check(l); err != api.OK {
		return api.Modal{}, err
	}
	for group := range 26 {
		if n, ok := table.find(l, group); ok && fieldOf(&m, group) != nil {
			*fieldOf(&m, group) = n
		}
	}
	if err := table.errors(l, m.Units); err != api.OK {
		return api.Modal{}, err
	}
	if n, ok := word(l, 'F'); ok {
		m.Feed, _ = modal.Rate(n, m.Units)
	}
	for letter := range numberWords {
		if n, ok := word(l, int(letter[0])); ok {
			*numberField(&m, letter) = n / one
		}
	}
	if n, ok := table.find(l, 24); ok {
		m.Mist, m.Flood = n == 7 || n != 9 && m.Mist, n == 8 || n != 9 && m.Flood
	}
	if _, ok := table.find(l, 23); ok {
		m.Loaded = m.Tool
	}
	return table.clear(m, l), api.OK
}

// clear sets what G49, G40, G61 and G64 make 0 unless a word says otherwise.
func (table model) clear(m api.Modal, l []api.Value) api.Modal {
	if n, ok := table.find(l, 7); ok && n == 49 {
		h, _ := word(l, 'H')
		m.H = h / one
	}
	if n, ok := table.find(l, 6); ok && n == 40 {
		d, _ := word(l, 'D')
		m.D = d / one
	}
	if n, ok := table.find(l, 10); ok {
		m.Blend = 0
		if p, there := word(l, 'P'); there && n == 64 {
			m.Blend, _ = fixed.Length(p, m.Units)
		}
	}
	return m
}

// follows fails the test unless Check and Apply have the results of the model. It returns those of Apply.
func (table model) follows(t *testing.T, m api.Modal, l []api.Value) (api.Modal, api.Errno) {
	t.Helper()
	checked(t, l, table.check(l))
	want, err := table.apply(m, l)
	applied(t, m, l, want, err)
	return want, err
}

// P11.3, P11.5: all blocks of up to three values out of a list, in all orders.
func TestSmallBlocks(t *testing.T) {
	table := model(groupOf())
	list := joined(
		block("G0 G3 G80 G18 G91 G20 G21 G95 G40 G42 G43 G49 G99 G59 G61 G64 G16 G68 G53 G4 G92 M1 M30 M4 M6 M7 M8 M9 M62"),
		block("F100 F0 F60000 S0 S30001 T2 T33 H1 H0.5 D32 D-1 P0.5 P1 P2 P-1 X1 Y-2 G5 M98 G1.5"),
		value('x', 1), value('P', top+1), value('G', least),
	)
	start := strange()
	found := map[api.Errno]int{}
	for _, a := range list {
		table.follows(t, start, []api.Value{a})
		for _, b := range list {
			table.follows(t, start, []api.Value{a, b})
			for _, c := range list {
				_, err := table.follows(t, start, []api.Value{a, b, c})
				found[err]++
			}
		}
	}
	for _, err := range []api.Errno{api.OK, api.ErrArg, api.ErrUnknown, api.ErrConflict, api.ErrDuplicate, api.ErrRange} {
		if found[err] < 1500 {
			t.Errorf("only %d blocks have the error %d", found[err], err)
		}
	}
}

// random makes blocks, the same ones in every run.
type random struct {
	*rand.Rand
	codes []code
}

func newRandom(seed uint64) random {
	return random{rand.New(rand.NewPCG(11, seed)), codes()}
}

// number draws a number for a word, most often one that it may have.
func (r random) number(letter int) int {
	switch r.IntN(20) {
	case 0:
		return r.IntN(2*top+1) - top
	case 1:
		return r.IntN(200*one) - 100*one
	}
	switch letter {
	case 'F':
		return r.IntN(3000 * one)
	case 'P':
		return r.IntN(one / 20)
	case 'S':
		return r.IntN(30002) * one
	}
	return r.IntN(34) * one
}

// value draws a value.
func (r random) value() api.Value {
	switch r.IntN(60) {
	case 0:
		return api.Value{Letter: r.IntN(200) - 20, N: r.IntN(100) * one}
	case 1:
		return api.Value{Letter: 'G' + 6*r.IntN(2), N: r.IntN(101*one) - one}
	case 2:
		return api.Value{Letter: 'A' + r.IntN(26), N: invalid[r.IntN(len(invalid))]}
	}
	if r.IntN(2) == 0 {
		c := r.codes[r.IntN(len(r.codes))]
		return api.Value{Letter: c.letter, N: c.n * one}
	}
	letter := int("FSTHDPFSTHDPXYZ"[r.IntN(15)])
	return api.Value{Letter: letter, N: r.number(letter)}
}

// block draws a block of a number of values. Most often it leaves out those that have an error behind the others.
func (r random) block(table model, size int) []api.Value {
	strict := r.IntN(4) > 0
	var l []api.Value
	for range size {
		l = append(l, r.value())
		if strict && table.check(l) != api.OK {
			l = l[:len(l)-1]
		}
	}
	return l
}

// P11.3, P11.5, Consequences: random blocks one after the other; the order of the values of an accepted one does not matter.
func TestRandomBlocks(t *testing.T) {
	r, table := newRandom(1), model(groupOf())
	found := map[api.Errno]int{}
	m := modal.Start()
	for i := range 60000 {
		if i%40 == 0 {
			m = states(t)[i/40%6]
		}
		l := r.block(table, r.IntN(11))
		next, err := table.follows(t, m, l)
		found[err]++
		if err != api.OK {
			continue
		}
		for range 3 {
			r.Shuffle(len(l), func(i, j int) { l[i], l[j] = l[j], l[i] })
			table.follows(t, m, l)
			applied(t, m, l, next, api.OK)
		}
		m = next
	}
	for _, err := range []api.Errno{api.OK, api.ErrArg, api.ErrUnknown, api.ErrConflict, api.ErrDuplicate, api.ErrRange} {
		if found[err] < 150 {
			t.Errorf("only %d blocks have the error %d", found[err], err)
		}
	}
	if found[api.OK] < 20000 {
		t.Errorf("only %d blocks have no error", found[api.OK])
	}
}

// Consequences: a state that is reached from Start has one code of each modal group, and its numbers are within their limits.
func TestReachedStates(t *testing.T) {
	r, table := newRandom(2), model(groupOf())
	m := modal.Start()
	for i := range 40000 {
		if i%500 == 0 {
			m = modal.Start()
		}
		next, err := modal.Apply(m, r.block(table, r.IntN(9)))
		if err != api.OK {
			continue
		}
		m = next
		for group, list := range groups() {
			field := fieldOf(&m, group)
			if field != nil && !slices.ContainsFunc(list, func(c code) bool { return c.n == *field }) {
				t.Fatalf("the group %d has the code %d", group, *field)
			}
		}
		for _, x := range [][2]int{{m.Blend, 1000}, {m.Feed, 60000000}, {m.Speed, 30000}, {m.Tool, 32}, {m.Loaded, 32}, {m.H, 32}, {m.D, 32}} {
			if x[0] < 0 || x[0] > x[1] {
				t.Fatalf("the state is %+v", m)
			}
		}
	}
}
