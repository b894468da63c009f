package vars_test

import (
	"math"
	"slices"
	"strconv"
	"strings"
	"testing"

	"cnc/api"
	"cnc/vars"
)

const (
	most  = math.MaxInt
	least = math.MinInt
)

// promised is the table of P7.3, written another time.
const promised = "A 1, B 2, C 3, I 4, J 5, K 6, D 7, E 8, F 9, H 11, M 13, Q 17, R 18, S 19, T 20, U 21, V 22, W 23, X 24, Y 25, Z 26"

// valid are numbers that a variable may contain, with the first and the last one.
var valid = []int{0, 1, -1, 7, api.Million, -2500000, 1 << 31, -1 << 32, api.MaxNum - 1, 1 - api.MaxNum, api.MaxNum, -api.MaxNum}

// beyond are numbers that no variable may contain.
var beyond = []int{api.MaxNum + 1, -api.MaxNum - 1, 2 * api.MaxNum, 1 << 62, -1 << 62, most, least + 1, least}

// edges are the first, the second and the last two numbers of each kind of variable.
var edges = []int{1, 2, 32, 33, 100, 101, 198, 199, 5000, 5001, 5998, 5999}

// missing are numbers without a variable, with the neighbors of each range.
var missing = []int{0, -1, -2, -33, -100, -5000, 34, 35, 50, 98, 99, 200, 201, 255, 1000, 4998, 4999, 6000, 6001, 1<<32 + 1, 1<<32 + 100, 1<<32 + 5000, api.Million, most, least, least + 1, least + 100}

// belonging returns the number of the local variable of each letter that has one.
func belonging() map[int]int {
	numbers := map[int]int{}
	for _, s := range strings.Split(promised, ", ") {
		n, err := strconv.Atoi(s[2:])
		if err != nil {
			panic(err)
		}
		numbers[int(s[0])] = n
	}
	return numbers
}

// letters returns the letters that have a local variable, in the order of the alphabet.
func letters() []int {
	var list []int
	for letter := range belonging() {
		list = append(list, letter)
	}
	slices.Sort(list)
	return list
}

// existing returns the numbers of all variables of the kinds in the string: l, c and s.
func existing(kinds string) []int {
	var list []int
	for n := -10; n < 7000; n++ {
		if strings.Contains(kinds, kind(n)) {
			list = append(list, n)
		}
	}
	return list
}

// kind returns l, c or s for a local, common or system variable, and - if there is none.
func kind(n int) string {
	switch {
	case n > 0 && n < 34:
		return "l"
	case n > 99 && n < 200:
		return "c"
	case n > 4999 && n < 6000:
		return "s"
	}
	return "-"
}

// values are the numbers of the variables of a store.
type values map[int]int

// present returns the values of all variables of the present level that are not 0. It fails the test if a variable does not exist, or if there is another one.
func present(t *testing.T, s *vars.Store) values {
	t.Helper()
	found := values{}
	for n := -10; n < 7000; n++ {
		v, err := s.Get(n)
		if kind(n) == "-" && (v != 0 || err != api.ErrUnknown) || kind(n) != "-" && err != api.OK {
			t.Errorf("Get(%d) = %d, %d", n, v, err)
		}
		if v != 0 {
			found[n] = v
		}
	}
	return found
}

// put gives the variable a value by the call that belongs to its kind.
func put(t *testing.T, s *vars.Store, n, v int) {
	t.Helper()
	if kind(n) == "s" {
		gives(t, "Host", s.Host(n, v), api.OK)
	} else {
		gives(t, "Set", s.Set(n, v), api.OK)
	}
}

// filled returns a store at a level, in which each variable of each level has a value of its own.
func filled(t *testing.T, level int) *vars.Store {
	t.Helper()
	s := vars.New()
	for _, n := range existing("cs") {
		put(t, s, n, -n)
	}
	for at := range level + 1 {
		if at > 0 {
			gives(t, "Push", s.Push(nil), api.OK)
		}
		for _, n := range existing("l") {
			put(t, s, n, 1000*(at+1)+n)
		}
	}
	return s
}

// isFilled fails the test unless the store is as filled has returned it. It leaves the store at level 0.
func isFilled(t *testing.T, s *vars.Store, level int) {
	t.Helper()
	for at := level; at >= 0; at-- {
		if s.Level() != at {
			t.Fatalf("the level is %d, want %d", s.Level(), at)
		}
		found := present(t, s)
		if len(found) != 1133 {
			t.Errorf("%d variables are not 0 at level %d", len(found), at)
		}
		for n, v := range found {
			want := -n
			if kind(n) == "l" {
				want = 1000*(at+1) + n
			}
			if v != want {
				t.Errorf("the variable %d at level %d is %d, want %d", n, at, v, want)
			}
		}
		if at > 0 {
			gives(t, "Pop", s.Pop(), api.OK)
		}
	}
}

// climb calls Push up to the greatest number of levels, and call behind each Push.
func climb(t *testing.T, s *vars.Store, args []api.Value, call func()) {
	t.Helper()
	for range api.MaxCalls - s.Level() {
		gives(t, "Push", s.Push(args), api.OK)
		call()
	}
}

// descend calls Pop down to a level, and call behind each Pop.
func descend(t *testing.T, s *vars.Store, level int, call func()) {
	t.Helper()
	for range s.Level() - level {
		gives(t, "Pop", s.Pop(), api.OK)
		call()
	}
}

// gives fails the test unless a call has returned the wanted error.
func gives(t *testing.T, what string, got, want api.Errno) {
	t.Helper()
	if got != want {
		t.Errorf("%s = %d, want %d", what, got, want)
	}
}

// reads fails the test unless the variable has the wanted value.
func reads(t *testing.T, s *vars.Store, n, want int) {
	t.Helper()
	if v, err := s.Get(n); v != want || err != api.OK {
		t.Errorf("Get(%d) = %d, %d, want %d, %d", n, v, err, want, api.OK)
	}
}

// refuses fails the test unless Push returns the wanted error and leaves the store as it was.
func refuses(t *testing.T, level int, want api.Errno, args ...api.Value) {
	t.Helper()
	s := filled(t, level)
	if err := s.Push(args); err != want {
		t.Errorf("Push(%v) at level %d = %d, want %d", args, level, err, want)
	}
	isFilled(t, s, level)
}

func arg(letter, n int) api.Value {
	return api.Value{Letter: letter, N: n}
}
