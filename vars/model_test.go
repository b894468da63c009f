package vars_test

import (
	"maps"
	"math/rand/v2"
	"slices"
	"testing"

	"cnc/api"
	"cnc/vars"
)

// model is a store that is kept in another way: it contains no variable that is 0, and Push and Pop add and remove a map.
type model struct {
	levels []values
	others values
}

func (m *model) place(n int) values {
	if kind(n) == "l" {
		return m.levels[len(m.levels)-1]
	}
	return m.others
}

func (m *model) write(n, v int) {
	delete(m.place(n), n)
	if v != 0 {
		m.place(n)[n] = v
	}
}

// set follows Set, or Host for the kind s.
func (m *model) set(n, v int, kinds string) api.Errno {
	if kind(n) == "-" || kinds == "s" && kind(n) != "s" {
		return api.ErrUnknown
	}
	if kinds != "s" && kind(n) == "s" {
		return api.ErrState
	}
	if v > api.MaxNum || v < -api.MaxNum {
		return api.ErrRange
	}
	m.write(n, v)
	return api.OK
}

func (m *model) push(args []api.Value) api.Errno {
	if len(m.levels) == 9 {
		return api.ErrLimit
	}
	numbers := belonging()
	for i, a := range args {
		if numbers[a.Letter] == 0 {
			return api.ErrArg
		}
		if slices.ContainsFunc(args[:i], func(b api.Value) bool { return b.Letter == a.Letter }) {
			return api.ErrDuplicate
		}
		if a.N > api.MaxNum || a.N < -api.MaxNum {
			return api.ErrRange
		}
	}
	m.levels = append(m.levels, values{})
	for _, a := range args {
		m.write(numbers[a.Letter], a.N)
	}
	return api.OK
}

func (m *model) pop() api.Errno {
	if len(m.levels) == 1 {
		return api.ErrState
	}
	m.levels = m.levels[:len(m.levels)-1]
	return api.OK
}

func (m *model) copy() *model {
	other := &model{others: maps.Clone(m.others)}
	for _, level := range m.levels {
		other.levels = append(other.levels, maps.Clone(level))
	}
	return other
}

// all returns the variables of the present level that are not 0.
func (m *model) all() values {
	list := maps.Clone(m.others)
	maps.Copy(list, m.levels[len(m.levels)-1])
	return list
}

// pair is a store and its model.
type pair struct {
	store *vars.Store
	model *model
}

func newPair() pair {
	return pair{vars.New(), &model{[]values{{}}, values{}}}
}

func (p pair) check(t *testing.T) {
	t.Helper()
	if got, want := p.store.Level(), len(p.model.levels)-1; got != want {
		t.Fatalf("the level is %d, want %d", got, want)
	}
	if got, want := present(t, p.store), p.model.all(); !maps.Equal(got, want) {
		t.Fatalf("the variables are %v, want %v", got, want)
	}
}

// row draws calls; pushes of ten calls are Push or Pop, and of these rising of ten are Push.
type row struct {
	*rand.Rand
	pushes, rising int
}

func (r row) pick(list []int) int {
	return list[r.IntN(len(list))]
}

// number draws a number of a variable, most often one that exists.
func (r row) number() int {
	switch r.IntN(8) {
	case 0:
		return r.pick(missing)
	case 1, 2:
		return r.pick(edges)
	case 3, 4:
		return 100 + r.IntN(100)
	case 5:
		return 5000 + r.IntN(1000)
	}
	return 1 + r.IntN(33)
}

// value draws a value, most often one that is valid.
func (r row) value() int {
	switch r.IntN(8) {
	case 0:
		return r.pick(beyond)
	case 1, 2:
		return r.pick(valid)
	}
	return r.IntN(2*api.MaxNum+1) - api.MaxNum
}

// args draws the arguments of Push, most often some without an error.
func (r row) args() []api.Value {
	all := letters()
	r.Shuffle(len(all), func(i, j int) { all[i], all[j] = all[j], all[i] })
	var list []api.Value
	for _, letter := range all[:r.IntN(len(all)+1)] {
		list = append(list, arg(letter, r.IntN(1000)-500))
	}
	for len(list) > 0 && r.IntN(3) == 0 {
		i := r.IntN(len(list))
		switch r.IntN(4) {
		case 0:
			list[i].Letter = r.IntN(300)
		case 1:
			list[i].Letter = list[r.IntN(len(list))].Letter
		case 2:
			list[i].N = r.pick(beyond)
		case 3:
			list[i].N = r.value()
		}
	}
	return list
}

// step draws a call and compares its result with that of the model.
func (r row) step(t *testing.T, p pair) {
	t.Helper()
	if r.IntN(10) >= r.pushes {
		n, v := r.number(), r.value()
		if r.IntN(4) == 0 || kind(n) == "s" && r.IntN(4) > 0 {
			gives(t, "Host", p.store.Host(n, v), p.model.set(n, v, "s"))
		} else {
			gives(t, "Set", p.store.Set(n, v), p.model.set(n, v, "lc"))
		}
		return
	}
	if r.IntN(10) >= r.rising {
		gives(t, "Pop", p.store.Pop(), p.model.pop())
		return
	}
	args := r.args()
	given := slices.Clone(args)
	gives(t, "Push", p.store.Push(given), p.model.push(args))
	if !slices.Equal(given, args) {
		t.Errorf("Push has changed its arguments to %v, were %v", given, args)
	}
	clear(given)
}

// P7.1 to P7.4, and the consequences: rows of calls on a store, its copies and their copies.
func TestRowsOfCalls(t *testing.T) {
	for seed := range 12 {
		r := row{rand.New(rand.NewPCG(9, uint64(seed))), 2 + seed%4*2, 3 + seed%3*2}
		pairs := []pair{newPair(), newPair(), newPair()}
		for range 400 {
			i := r.IntN(len(pairs))
			if r.IntN(12) == 0 {
				from := pairs[r.IntN(len(pairs))]
				pairs[i] = pair{from.store.Copy(), from.model.copy()}
			} else {
				r.step(t, pairs[i])
			}
			for _, p := range pairs {
				p.check(t)
			}
		}
		for _, p := range pairs {
			for p.model.pop() == api.OK {
				gives(t, "Pop", p.store.Pop(), api.OK)
				p.check(t)
			}
			gives(t, "Pop", p.store.Pop(), api.ErrState)
		}
	}
}

// P7.1 to P7.4, and the consequences: all rows of six calls out of a few.
func TestAllShortRows(t *testing.T) {
	calls := []func(t *testing.T, p pair, i int) pair{
		func(t *testing.T, p pair, i int) pair {
			gives(t, "Push", p.store.Push(nil), p.model.push(nil))
			return p
		},
		func(t *testing.T, p pair, i int) pair {
			args := []api.Value{arg('X', i)}
			gives(t, "Push", p.store.Push(args), p.model.push(args))
			return p
		},
		func(t *testing.T, p pair, i int) pair {
			gives(t, "Pop", p.store.Pop(), p.model.pop())
			return p
		},
		func(t *testing.T, p pair, i int) pair {
			gives(t, "Set", p.store.Set(24, -i), p.model.set(24, -i, "lc"))
			return p
		},
		func(t *testing.T, p pair, i int) pair {
			gives(t, "Set", p.store.Set(100, i), p.model.set(100, i, "lc"))
			return p
		},
		// What happens to the original of a copy does not reach the copy.
		func(t *testing.T, p pair, i int) pair {
			other := pair{p.store.Copy(), p.model.copy()}
			p.store.Set(24, 77)
			p.store.Pop()
			p.store.Set(24, 88)
			p.store.Push([]api.Value{arg('X', 99)})
			return other
		},
	}
	for code := range 6 * 6 * 6 * 6 * 6 * 6 {
		p := newPair()
		for i, rest := 1, code; i <= 6; i, rest = i+1, rest/6 {
			p = calls[rest%6](t, p, i)
			checkFew(t, p)
		}
		for p.model.pop() == api.OK {
			gives(t, "Pop", p.store.Pop(), api.OK)
			checkFew(t, p)
		}
	}
}

// checkFew compares the level and the two variables that TestAllShortRows changes.
func checkFew(t *testing.T, p pair) {
	t.Helper()
	if p.store.Level() != len(p.model.levels)-1 {
		t.Fatalf("the level is %d, want %d", p.store.Level(), len(p.model.levels)-1)
	}
	reads(t, p.store, 24, p.model.place(24)[24])
	reads(t, p.store, 100, p.model.place(100)[100])
}
