package vars_test

import (
	"maps"
	"slices"
	"testing"

	"cnc/api"
	"cnc/vars"
)

// everyLetter returns an argument for each letter that has a local variable.
func everyLetter() []api.Value {
	var list []api.Value
	for _, letter := range letters() {
		list = append(list, arg(letter, -letter))
	}
	return list
}

// begins fails the test unless Push begins a level in which the variables of args, and no others, have their values.
func begins(t *testing.T, s *vars.Store, args []api.Value) {
	t.Helper()
	level, numbers := s.Level(), belonging()
	want := present(t, s)
	maps.DeleteFunc(want, func(n, _ int) bool { return kind(n) == "l" })
	for _, a := range args {
		if a.N != 0 {
			want[numbers[a.Letter]] = a.N
		}
	}
	if err := s.Push(args); err != api.OK {
		t.Errorf("Push(%v) = %d", args, err)
	}
	if found := present(t, s); !maps.Equal(found, want) {
		t.Errorf("after Push(%v) the variables are %v, want %v", args, found, want)
	}
	if s.Level() != level+1 {
		t.Errorf("after Push(%v) the level is %d, want %d", args, s.Level(), level+1)
	}
}

// P7.4
func TestPush(t *testing.T) {
	lists := [][]api.Value{nil, {}, {arg('X', 7)}, {arg('X', 7), arg('A', 8)}, {arg('Z', 0), arg('A', 0)}, {arg('I', 1), arg('J', 2), arg('K', 3), arg('D', 4), arg('E', 5), arg('F', 6)}}
	for _, letter := range letters() {
		for _, n := range valid {
			lists = append(lists, []api.Value{arg(letter, n)})
		}
	}
	all := everyLetter()
	lists = append(lists, slices.Clone(all))
	slices.Reverse(all)
	lists = append(lists, all)
	for _, args := range lists {
		for _, level := range []int{0, 1, api.MaxCalls - 1} {
			s := filled(t, level)
			given := slices.Clone(args)
			begins(t, s, given)
			if !slices.Equal(given, args) {
				t.Errorf("Push has changed its arguments to %v, were %v", given, args)
			}
			gives(t, "Pop", s.Pop(), api.OK)
			isFilled(t, s, level)
		}
	}
}

// P7.4, R2
func TestPushKeepsNoArguments(t *testing.T) {
	s := vars.New()
	args := everyLetter()
	gives(t, "Push", s.Push(args), api.OK)
	want := present(t, s)
	clear(args)
	if found := present(t, s); len(want) != 21 || !maps.Equal(found, want) {
		t.Errorf("the variables are %v, were %v", found, want)
	}
}

// P7.4
func TestGreatestNumberOfLevels(t *testing.T) {
	for _, args := range [][]api.Value{nil, {arg('X', 7)}, everyLetter()} {
		s := vars.New()
		for level := range 8 {
			if s.Level() != level {
				t.Errorf("the level is %d, want %d", s.Level(), level)
			}
			gives(t, "Push", s.Push(args), api.OK)
		}
		for range 3 {
			gives(t, "Push", s.Push(args), api.ErrLimit)
			if s.Level() != 8 {
				t.Errorf("the level is %d, want 8", s.Level())
			}
		}
		gives(t, "Pop", s.Pop(), api.OK)
		gives(t, "Push", s.Push(args), api.OK)
	}
	// ErrLimit comes before all errors of the arguments.
	refuses(t, api.MaxCalls, api.ErrLimit)
	refuses(t, api.MaxCalls, api.ErrLimit, arg('X', 7))
	refuses(t, api.MaxCalls, api.ErrLimit, arg('G', 7))
	refuses(t, api.MaxCalls, api.ErrLimit, arg('X', 7), arg('X', 7))
	refuses(t, api.MaxCalls, api.ErrLimit, arg('X', api.MaxNum+1))
	refuses(t, api.MaxCalls, api.ErrLimit, arg('G', api.MaxNum+1), arg('G', api.MaxNum+1))
}

// P7.4
func TestLettersWithoutVariable(t *testing.T) {
	numbers := belonging()
	for letter := -2; letter < 260; letter++ {
		if numbers[letter] == 0 {
			refuses(t, 0, api.ErrArg, arg(letter, 7))
		}
	}
	for _, letter := range []int{'G', 'L', 'N', 'O', 'P', 'a', 0, -1, 256 + 'X', 1<<32 + 'X', -'X', most, least} {
		refuses(t, 1, api.ErrArg, arg(letter, 0))
		refuses(t, 1, api.ErrArg, arg('A', 1), arg(letter, 0), arg('B', 2))
		refuses(t, 1, api.ErrArg, append(everyLetter(), arg(letter, 0))...)
	}
}

// P7.4
func TestLettersThatAreGivenTwice(t *testing.T) {
	all := everyLetter()
	for _, a := range all {
		refuses(t, 0, api.ErrDuplicate, a, a)
		refuses(t, 1, api.ErrDuplicate, append(slices.Clone(all), arg(a.Letter, 5))...)
	}
	for _, n := range []int{0, 7} {
		for _, again := range []int{0, 7, 8} {
			refuses(t, 2, api.ErrDuplicate, arg('X', n), arg('X', again))
			refuses(t, 2, api.ErrDuplicate, arg('X', n), arg('Y', 3), arg('X', again))
			refuses(t, 2, api.ErrDuplicate, arg('A', 1), arg('X', n), arg('Y', 3), arg('Z', 4), arg('X', again), arg('B', 2))
			refuses(t, 2, api.ErrDuplicate, arg('A', n), arg('A', again), arg('A', n))
		}
	}
}

// P7.4
func TestValuesOfArguments(t *testing.T) {
	for _, letter := range letters() {
		for _, n := range []int{api.MaxNum + 1, -api.MaxNum - 1} {
			refuses(t, 0, api.ErrRange, arg(letter, n))
		}
	}
	for _, n := range beyond {
		refuses(t, 1, api.ErrRange, arg('X', n))
		refuses(t, 1, api.ErrRange, arg('A', 1), arg('X', n))
		refuses(t, 1, api.ErrRange, arg('X', n), arg('A', 1))
		refuses(t, 1, api.ErrRange, append(everyLetter()[:20], arg('Z', n))...)
	}
}

// P7.4: for one element the error that is listed first.
func TestElementsWithSeveralErrors(t *testing.T) {
	for _, n := range beyond {
		refuses(t, 0, api.ErrArg, arg('G', n))
		refuses(t, 0, api.ErrArg, arg(0, n))
		refuses(t, 0, api.ErrDuplicate, arg('X', 7), arg('X', n))
		refuses(t, 0, api.ErrDuplicate, arg('X', 0), arg('A', 1), arg('X', n))
	}
	// An earlier element that has the same letter has itself an error, and decides.
	refuses(t, 0, api.ErrArg, arg('G', 7), arg('G', 7))
	refuses(t, 0, api.ErrArg, arg('G', most), arg('G', most))
	refuses(t, 0, api.ErrRange, arg('X', most), arg('X', 7))
	refuses(t, 0, api.ErrRange, arg('X', most), arg('X', most))
}

// P7.4: the first element that has an error decides.
func TestSeveralElementsWithErrors(t *testing.T) {
	wrong := []struct {
		a   api.Value
		err api.Errno
	}{
		{arg('G', 7), api.ErrArg}, {arg('X', 7), api.ErrDuplicate}, {arg('Y', api.MaxNum+1), api.ErrRange},
		{arg('P', most), api.ErrArg}, {arg('X', least), api.ErrDuplicate}, {arg('Z', -api.MaxNum-1), api.ErrRange},
	}
	for _, first := range wrong {
		for _, second := range wrong {
			refuses(t, 1, first.err, arg('X', 1), first.a, second.a)
			refuses(t, 1, first.err, arg('X', 1), arg('A', 2), first.a, arg('B', 3), second.a, arg('C', 4))
			for _, third := range wrong {
				refuses(t, 0, first.err, arg('X', 0), first.a, second.a, third.a)
			}
		}
	}
}

// P7.4
func TestPop(t *testing.T) {
	s := filled(t, 0)
	for range 3 {
		gives(t, "Pop", s.Pop(), api.ErrState)
	}
	isFilled(t, s, 0)
	for level := range api.MaxCalls + 1 {
		s := filled(t, level)
		for range level {
			gives(t, "Pop", s.Pop(), api.OK)
		}
		gives(t, "Pop", s.Pop(), api.ErrState)
		isFilled(t, s, 0)
	}
}

// P7.4: a level begins with 0 even where a level has been before.
func TestLevelsBeginAnew(t *testing.T) {
	s := filled(t, api.MaxCalls)
	descend(t, s, 0, func() {})
	for range api.MaxCalls {
		begins(t, s, nil)
	}
	descend(t, s, 0, func() {})
	for range api.MaxCalls {
		begins(t, s, []api.Value{arg('M', 2)})
	}
}

// The consequences: Push and Pop change no local variable of a level below, and the other variables are the same at all levels.
func TestVariablesBehindPushAndPop(t *testing.T) {
	for level := range api.MaxCalls {
		s := filled(t, level)
		value := 0
		renew := func() {
			if value > 0 {
				allRead(t, s, "cs", value)
			}
			value++
			allPut(t, s, "cs", value)
		}
		for range 3 {
			renew()
			climb(t, s, everyLetter(), func() {
				renew()
				allPut(t, s, "l", 5)
			})
			descend(t, s, level+1, func() {
				renew()
				allRead(t, s, "l", 5)
			})
			descend(t, s, level, renew)
		}
		for _, n := range existing("cs") {
			put(t, s, n, -n)
		}
		isFilled(t, s, level)
	}
}

// allPut gives the variables of the kinds in the string a value.
func allPut(t *testing.T, s *vars.Store, kinds string, v int) {
	t.Helper()
	for _, n := range existing(kinds) {
		put(t, s, n, v)
	}
}

// allRead fails the test unless the variables of the kinds in the string have the wanted value.
func allRead(t *testing.T, s *vars.Store, kinds string, want int) {
	t.Helper()
	for _, n := range existing(kinds) {
		reads(t, s, n, want)
	}
}
