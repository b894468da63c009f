package eval_test

import (
	"slices"
	"testing"

	"cnc/api"
	"cnc/eval"
	"cnc/vars"
)

// P8.1: all variables of each level.
func TestOpVar(t *testing.T) {
	for _, level := range []int{0, 1, api.MaxCalls} {
		s := filled(t, level)
		for n := 1; n <= api.Locals; n++ {
			has(t, ref(n), s, local(level, n))
		}
		for n := api.FirstCommon; n <= api.LastCommon; n++ {
			has(t, ref(n), s, n*one+1)
		}
		for n := api.FirstSystem; n <= api.LastSystem; n++ {
			has(t, ref(n), s, -n*one)
		}
	}
}

// P8.1
func TestVariablesThatDoNotExist(t *testing.T) {
	s := filled(t, 1)
	for _, n := range []int{0, 34, 35, 50, 98, 99, 200, 201, 1000, 4998, 4999, 6000, 6001, 65536, 999999999} {
		fails(t, ref(n), s, api.ErrUnknown)
	}
	for _, n := range []int{1, 2, 33, 34, 100, 199, 5000, 5021, 5999, 1000000} {
		fails(t, branch(api.OpVar, branch(api.OpNeg, num(n*one))), s, api.ErrUnknown)
	}
	fails(t, branch(api.OpVar, constant(top)), s, api.ErrUnknown)
	fails(t, branch(api.OpVar, constant(-top)), s, api.ErrUnknown)
}

// P8.1: numbers of variables that are not integers, next to those of variables that exist.
func TestNumbersOfVariablesThatAreNotIntegers(t *testing.T) {
	s := filled(t, 0)
	for _, n := range []int{0, 1, 2, 10, 33, 100, 101, 150, 199, 5000, 5021, 5999} {
		for _, d := range []int{1, 2, 10, one / 10, one / 2, one - 1} {
			fails(t, branch(api.OpVar, num(n*one+d)), s, api.ErrUnknown)
			if n > 0 {
				fails(t, branch(api.OpVar, num(n*one-d)), s, api.ErrUnknown)
			}
			fails(t, branch(api.OpVar, branch(api.OpNeg, num(n*one+d))), s, api.ErrUnknown)
		}
	}
	fails(t, branch(api.OpVar, num(top-1)), s, api.ErrUnknown)
}

// P8.1: numbers of variables that are values of expressions.
func TestVariablesOfVariables(t *testing.T) {
	s := with(t, 2*one, 3*one, 100*one, 5021*one, 5*one/2, -one)
	put(t, s, 100, 4*one)
	put(t, s, 5021, -7)
	for text, want := range map[string]int{
		"##1": 3 * one, "###1": 100 * one, "####1": 4 * one, "#####1": 5021 * one, "######1": -7, "#[#1+1]": 100 * one, "#[#1*#1]": 5021 * one, "#[#5*2]": 5 * one / 2,
		"#[0-#6]": 2 * one, "#[#3+#6+1]": 4 * one, "#[ROUND[#5]]": 100 * one, "#[#5-0.5]": 3 * one, "#[SQRT[#1+#1]]": 3 * one, "-##1": -3 * one, "#[1 LT 2]": 2 * one,
	} {
		has(t, parsed(t, text), s, want)
	}
	for _, text := range []string{"##5", "##6", "##7", "#[#1-2]", "#[#1+#5]", "#[1 GT 2]", "#[#4+980]", "#######1"} {
		fails(t, parsed(t, text), s, api.ErrUnknown)
	}
}

// P8.1, R3: the values are those at the time of the call, at the present level of the given store.
func TestVariablesAreThoseOfTheCall(t *testing.T) {
	s, other := vars.New(), vars.New()
	x := branch(api.OpAdd, ref(1), ref(100))
	has(t, x, s, 0)
	put(t, s, 1, 5)
	put(t, s, 100, 60)
	put(t, other, 1, 700)
	has(t, x, s, 65)
	has(t, x, other, 700)
	third := s.Copy()
	put(t, s, 1, 6)
	has(t, x, third, 65)
	has(t, x, s, 66)
	if err := s.Push([]api.Value{{Letter: 'A', N: 8000}}); err != api.OK {
		t.Fatalf("Push = %d", err)
	}
	has(t, x, s, 8060)
	put(t, s, 100, 90)
	if err := s.Pop(); err != api.OK {
		t.Fatalf("Pop = %d", err)
	}
	has(t, x, s, 96)
	has(t, x, third, 65)
}

// P8.1, R2: an expression that is changed behind a call has another value in the next one.
func TestExpressionsAreNotKept(t *testing.T) {
	s := with(t, 5)
	list := []api.Expr{num(1), ref(1)}
	x := branch(api.OpAdd, list...)
	has(t, x, s, 6)
	list[0] = num(10)
	has(t, x, s, 15)
	list[1] = num(-1)
	fails(t, x, s, api.ErrArg)
	list[1] = ref(2)
	has(t, x, s, 10)
}

// P8.1: the variables are as they were, with an error and without one, and a later call has the same result.
func TestVariablesStay(t *testing.T) {
	list := []api.Expr{num(7), ref(3), ref(150), ref(5021), num(-1), branch(26), branch(api.OpNeg), branch(api.OpVar, num(one/2))}
	for _, x := range broken() {
		list = append(list, x)
	}
	for _, op := range singles {
		list = append(list, branch(op, ref(1)), branch(op, branch(op, num(2*one))), branch(op, ref(34)))
	}
	for _, op := range pairs {
		list = append(list, branch(op, ref(5), ref(100)), branch(op, ref(5021), ref(1)), branch(op, num(0), num(0)), branch(op, ref(1), ref(34)))
	}
	for _, level := range []int{0, 1, api.MaxCalls} {
		s := filled(t, level)
		before := contents(s)
		type result struct {
			n   int
			err api.Errno
		}
		var results []result
		for _, x := range list {
			n, err := eval.Eval(x, s)
			results = append(results, result{n, err})
			if !slices.Equal(contents(s), before) {
				t.Fatalf("Eval(%s) at level %d has changed the variables", shown(x), level)
			}
		}
		for i, x := range slices.Backward(list) {
			gives(t, x, s, results[i].n, results[i].err)
		}
	}
}
