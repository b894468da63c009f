package modal_test

import (
	"math/big"
	"math/rand/v2"
	"testing"

	"cnc/api"
	"cnc/modal"
)

// rates fails the test unless Rate has the wanted results.
func rates(t *testing.T, n, units, want int, wantErr api.Errno) {
	t.Helper()
	if got, err := modal.Rate(n, units); got != want || err != wantErr {
		t.Errorf("Rate(%d, %d) = %d, %d, want %d, %d", n, units, got, err, want, wantErr)
	}
}

// P11.4
func TestRate(t *testing.T) {
	for _, x := range []struct{ n, units, want int }{
		{one, 21, 1000}, {one, 20, 25400}, {100 * one, 21, 100000}, {100 * one, 20, 2540000}, {one / 2, 21, 500}, {one / 2, 20, 12700}, {1234567, 21, 1235}, {1234499, 21, 1234}, {1234500, 21, 1235}, {1234567, 20, 31358},
		// Half a micrometer becomes a whole one.
		{500, 21, 1}, {999, 21, 1}, {1499, 21, 1}, {1500, 21, 2}, {20, 20, 1}, {59, 20, 1}, {60, 20, 2}, {2500, 20, 64}, {7500, 20, 191},
		{59999999499, 21, api.MaxFeed - 1}, {59999999500, 21, api.MaxFeed}, {60000 * one, 21, api.MaxFeed}, {60000000499, 21, api.MaxFeed},
		{2362204704, 20, api.MaxFeed - 1}, {2362204705, 20, api.MaxFeed}, {2362204744, 20, api.MaxFeed},
	} {
		rates(t, x.n, x.units, x.want, api.OK)
	}
}

// P11.4
func TestRatesOutOfRange(t *testing.T) {
	for _, x := range [][2]int{
		{0, 21}, {1, 21}, {499, 21}, {0, 20}, {1, 20}, {19, 20}, {60000000500, 21}, {60000001 * one / 1000, 21}, {2362204745, 20}, {60000 * one, 20}, {top, 21}, {top, 20}, {top - 1, 20},
		{-1, 21}, {-1, 20}, {-500, 21}, {-501, 21}, {-1000, 21}, {-one, 20}, {-60000 * one, 21}, {-top, 21}, {-top, 20}, {1 - top, 21},
	} {
		rates(t, x[0], x[1], 0, api.ErrRange)
	}
}

// P11.4: numbers that are not valid and other units, also where the rate is out of range.
func TestRatesOfNothing(t *testing.T) {
	for _, n := range []int{top + 1, -top - 1, 2 * top, 1 << 62, -1 << 62, most, least, least + 1} {
		for _, units := range []int{20, 21, 0, 22} {
			rates(t, n, units, 0, api.ErrArg)
		}
	}
	for _, units := range []int{0, 1, -1, 19, 22, -20, -21, 1 << 8, 20 + 1<<8, 21 + 1<<32, 20 * one, 21 * one, 17, 90, most, least} {
		for _, n := range []int{0, 1, -1, 499, 500, 100 * one, 60000 * one, top, -top, top + 1, least} {
			rates(t, n, units, 0, api.ErrArg)
		}
	}
}

// expectedRate is Rate of a valid number, computed with fractions.
func expectedRate(n, perUnit int) (int, api.Errno) {
	x := big.NewRat(int64(n), one)
	x.Mul(x, big.NewRat(int64(perUnit), 1))
	x.Add(x, big.NewRat(1, 2))
	// Div leaves no negative rest, so that this is the floor.
	rate := new(big.Int).Div(x.Num(), x.Denom())
	if rate.Cmp(big.NewInt(1)) < 0 || rate.Cmp(big.NewInt(api.MaxFeed)) > 0 {
		return 0, api.ErrRange
	}
	return int(rate.Int64()), api.OK
}

// P11.4
func TestRateIsExact(t *testing.T) {
	var list []int
	for n := -3000; n < 6000; n++ {
		list = append(list, n, 59999999000+n, 2362204700+n)
	}
	source := rand.New(rand.NewPCG(11, 4))
	for range 20000 {
		list = append(list, source.IntN(70000*one), source.IntN(3000*one), source.IntN(2*top)-top)
	}
	for _, n := range list {
		want, err := expectedRate(n, 1000)
		rates(t, n, 21, want, err)
		want, err = expectedRate(n, 25400)
		rates(t, n, 20, want, err)
	}
}
