package fixed

import (
	"math"
	"math/big"
	"math/rand/v2"
	"slices"
	"testing"

	"cnc/api"
)

const (
	most  = math.MaxInt
	least = math.MinInt
	one   = api.Million
)

// beyond are numbers that are not valid.
var beyond = []int{api.MaxNum + 1, -api.MaxNum - 1, 2 * api.MaxNum, -2 * api.MaxNum, most - 1, most, -most, least}

// corners are valid numbers at which a result may change its sign, its rounding or its error.
func corners() []int {
	list := []int{0}
	for _, n := range []int{
		1, 2, 3, 7, 499, 500, 501, 2500, 499999, 500000, 500001, 999999, one, one + 1, 1499999, 1500000, 1500001, 2 * one, 2500000, 3 * one, 10*one - 1,
		41282539, 41282540, api.MaxCoord * 1000, api.MaxCoord*1000 + 499, api.MaxCoord*1000 + 500, 666666666666667, 999999000001000,
		api.MaxNum / 2, api.MaxNum/2 + 1, api.MaxNum - one, api.MaxNum - 500000, api.MaxNum - 500001, api.MaxNum - 2, api.MaxNum - 1, api.MaxNum,
	} {
		list = append(list, n, -n)
	}
	return list
}

// samples returns valid numbers of all lengths and both signs, the same ones in every run.
func samples(count int) []int {
	source := rand.New(rand.NewPCG(3, 4))
	list := make([]int, count)
	for i := range list {
		// The longest numbers before the remainder have 50 bits, which reach beyond MaxNum.
		list[i] = (int(source.Uint64()) >> (13 + source.IntN(50))) % (api.MaxNum + 1)
	}
	return list
}

// pairs returns all pairs of corners and some of other numbers.
func pairs() [][2]int {
	var list [][2]int
	for _, a := range corners() {
		for _, b := range corners() {
			list = append(list, [2]int{a, b})
		}
	}
	drawn := samples(4000)
	for i := range len(drawn) - 1 {
		list = append(list, [2]int{drawn[i], drawn[i+1]})
	}
	return list
}

func singles() []int {
	return slices.Concat(corners(), samples(4000))
}

func number(n int) *big.Int { return big.NewInt(int64(n)) }

func times(a, b *big.Int) *big.Int { return new(big.Int).Mul(a, b) }

func plus(a, b *big.Int) *big.Int { return new(big.Int).Add(a, b) }

func half() *big.Rat { return big.NewRat(1, 2) }

// floor returns the greatest integer that is not greater than x.
func floor(x *big.Rat) *big.Int {
	// The denominator of a Rat is positive, and Div leaves no negative rest.
	return new(big.Int).Div(x.Num(), x.Denom())
}

// near returns x, rounded by api.Near.
func near(x *big.Rat) *big.Int {
	return floor(new(big.Rat).Add(x, half()))
}

func isValid(n *big.Int) bool {
	return n.CmpAbs(number(api.MaxNum)) <= 0
}

// gives fails the test unless a call has returned want and no error.
func gives(t *testing.T, name string, n int, err api.Errno, want int, arguments ...int) {
	t.Helper()
	if n != want || err != api.OK {
		t.Errorf("%s%v = %d, %d, want %d, %d", name, arguments, n, err, want, api.OK)
	}
}

// fails fails the test unless a call has returned 0 and the error want.
func fails(t *testing.T, name string, n int, err, want api.Errno, arguments ...int) {
	t.Helper()
	if n != 0 || err != want {
		t.Errorf("%s%v = %d, %d, want 0, %d", name, arguments, n, err, want)
	}
}

// givesExact fails the test unless a call has returned want, or ErrRange if want is not a valid number.
func givesExact(t *testing.T, name string, n int, err api.Errno, want *big.Int, arguments ...int) {
	t.Helper()
	if isValid(want) {
		gives(t, name, n, err, int(want.Int64()), arguments...)
	} else {
		fails(t, name, n, err, api.ErrRange, arguments...)
	}
}
