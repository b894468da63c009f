package vars_test

import (
	"maps"
	"slices"
	"testing"

	"cnc/api"
	"cnc/vars"
)

// P7.1
func TestNew(t *testing.T) {
	s := vars.New()
	if s.Level() != 0 {
		t.Errorf("the level is %d", s.Level())
	}
	for _, n := range edges {
		reads(t, s, n, 0)
	}
	if found := present(t, s); len(found) != 0 {
		t.Errorf("not 0: %v", found)
	}
	put(t, s, 1, 5)
	put(t, s, 100, 5)
	put(t, s, 5000, 5)
	gives(t, "Push", s.Push(nil), api.OK)
	other := vars.New()
	if found := present(t, other); len(found) != 0 || other.Level() != 0 {
		t.Errorf("a second store is at level %d, and not 0 are: %v", other.Level(), found)
	}
}

// P7.1, P7.2
func TestNoOtherVariables(t *testing.T) {
	for level := range api.MaxCalls + 1 {
		s := filled(t, level)
		for _, n := range missing {
			if v, err := s.Get(n); v != 0 || err != api.ErrUnknown {
				t.Errorf("Get(%d) = %d, %d", n, v, err)
			}
			for _, v := range slices.Concat(valid, beyond) {
				gives(t, "Set", s.Set(n, v), api.ErrUnknown)
				gives(t, "Host", s.Host(n, v), api.ErrUnknown)
			}
		}
		isFilled(t, s, level)
	}
}

// P7.1, P7.2
func TestSet(t *testing.T) {
	s := vars.New()
	for _, n := range existing("lc") {
		for _, v := range valid {
			gives(t, "Set", s.Set(n, v), api.OK)
			reads(t, s, n, v)
		}
	}
	if want := len(existing("lc")); want != 133 {
		t.Errorf("the test has %d variables", want)
	}
	for _, n := range existing("s") {
		reads(t, s, n, 0)
	}
}

// P7.1, P7.2
func TestHost(t *testing.T) {
	s := vars.New()
	for _, n := range existing("s") {
		for _, v := range valid {
			gives(t, "Host", s.Host(n, v), api.OK)
			reads(t, s, n, v)
		}
	}
	if want := len(existing("s")); want != 1000 {
		t.Errorf("the test has %d variables", want)
	}
	for _, n := range existing("lc") {
		reads(t, s, n, 0)
	}
}

// P7.2: every variable has a value of its own.
func TestOnlyOneVariableIsChanged(t *testing.T) {
	for _, level := range []int{0, 1, api.MaxCalls} {
		isFilled(t, filled(t, level), level)
	}
	for _, n := range append(edges, 5, 17, 150, 5021, 5070) {
		s := vars.New()
		put(t, s, n, 9)
		if found := present(t, s); !maps.Equal(found, values{n: 9}) {
			t.Errorf("with 9 for the variable %d the variables are %v", n, found)
		}
		put(t, s, n, 0)
		if found := present(t, s); len(found) != 0 {
			t.Errorf("with 0 for the variable %d the variables are %v", n, found)
		}
	}
}

// P7.2: all the errors of a call, of which ErrUnknown comes first and ErrRange last.
func TestErrorsOfSetAndHost(t *testing.T) {
	for _, level := range []int{0, 3} {
		s := filled(t, level)
		for _, n := range edges {
			for _, v := range slices.Concat(valid, beyond) {
				if kind(n) == "s" {
					gives(t, "Set", s.Set(n, v), api.ErrState)
				} else {
					gives(t, "Host", s.Host(n, v), api.ErrUnknown)
				}
			}
			for _, v := range beyond {
				if kind(n) == "s" {
					gives(t, "Host", s.Host(n, v), api.ErrRange)
				} else {
					gives(t, "Set", s.Set(n, v), api.ErrRange)
				}
			}
		}
		isFilled(t, s, level)
	}
}

// P7.2
func TestExamples(t *testing.T) {
	s := vars.New()
	if v, err := s.Get(34); v != 0 || err != api.ErrUnknown {
		t.Errorf("Get(34) = %d, %d", v, err)
	}
	gives(t, "Set", s.Set(5021, 0), api.ErrState)
	gives(t, "Push", s.Push([]api.Value{arg('X', 7)}), api.OK)
	reads(t, s, 24, 7)
}

// P7.3
func TestLocal(t *testing.T) {
	numbers := belonging()
	if len(numbers) != 21 {
		t.Fatalf("the test has %d letters", len(numbers))
	}
	check := func(letter int) {
		t.Helper()
		if got := vars.Local(letter); got != numbers[letter] {
			t.Errorf("Local(%d) = %d, want %d", letter, got, numbers[letter])
		}
	}
	for letter := range 256 {
		check(letter)
		for _, far := range []int{-letter, letter - 256, letter + 256, letter + 1<<16, letter + 1<<32, letter - 1<<32, letter + 1<<62, letter + least, most - letter} {
			if far < 0 || far > 255 {
				check(far)
			}
		}
	}
}

// P7.1: a copy and its original have the same variables at all levels, and the same level.
func TestCopy(t *testing.T) {
	for level := range api.MaxCalls + 1 {
		s := filled(t, level)
		isFilled(t, s.Copy(), level)
		isFilled(t, s.Copy().Copy(), level)
		isFilled(t, s, level)
	}
}

// P7.1: changes of one behind the other do not reach it, in whichever order they are made.
func TestCopyIsIndependent(t *testing.T) {
	for level := range api.MaxCalls + 1 {
		for _, change := range changes(t) {
			s := filled(t, level)
			other := s.Copy()
			change(s)
			isFilled(t, other, level)

			s = filled(t, level)
			other = s.Copy()
			change(other)
			isFilled(t, s, level)
		}
	}
}

// changes returns calls that change all variables of a store, or its level.
func changes(t *testing.T) []func(s *vars.Store) {
	each := func(s *vars.Store) {
		allPut(t, s, "lcs", 3)
	}
	args := []api.Value{arg('X', 7)}
	return []func(s *vars.Store){
		each,
		func(s *vars.Store) { descend(t, s, 0, func() { each(s) }) },
		func(s *vars.Store) { climb(t, s, args, func() { each(s) }) },
		func(s *vars.Store) {
			descend(t, s, 0, func() {})
			climb(t, s, args, func() { each(s) })
		},
	}
}

// P7.1: levels of a copy and of its original, begun one behind the other.
func TestLevelsOfACopy(t *testing.T) {
	for below := range api.MaxCalls {
		// The levels that were left have had their place in the store, too.
		s := filled(t, api.MaxCalls)
		descend(t, s, below, func() {})
		other := s.Copy()
		gives(t, "Push", s.Push([]api.Value{arg('X', 1), arg('Y', 1)}), api.OK)
		gives(t, "Push", other.Push([]api.Value{arg('X', 2), arg('Z', 2)}), api.OK)
		third := s.Copy()
		gives(t, "Pop", s.Pop(), api.OK)
		gives(t, "Push", s.Push([]api.Value{arg('A', 3)}), api.OK)
		for _, x := range []struct {
			store      *vars.Store
			a, x, y, z int
		}{{s, 3, 0, 0, 0}, {other, 0, 2, 0, 2}, {third, 0, 1, 1, 0}} {
			reads(t, x.store, 1, x.a)
			reads(t, x.store, 24, x.x)
			reads(t, x.store, 25, x.y)
			reads(t, x.store, 26, x.z)
			gives(t, "Pop", x.store.Pop(), api.OK)
			isFilled(t, x.store, below)
		}
	}
}
