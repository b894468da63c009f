package eval

import (
	"testing"

	"cnc/api"
)

// P8.1: no angle has a cosine that is so small that its tangent is not valid, so that this error can be seen here only.
func TestTangentOfASmallCosine(t *testing.T) {
	const limit = api.MaxNum / api.Million
	for _, x := range []struct {
		sine, cosine, want int
		err                api.Errno
	}{
		{limit, 1, api.MaxNum, api.OK}, {-limit, 1, -api.MaxNum, api.OK}, {limit, -1, -api.MaxNum, api.OK}, {-limit, -1, api.MaxNum, api.OK},
		{limit + 1, 1, 0, api.ErrRange}, {-limit - 1, 1, 0, api.ErrRange}, {limit + 1, -1, 0, api.ErrRange}, {-limit - 1, -1, 0, api.ErrRange},
		{api.One, 1, 0, api.ErrRange}, {-api.One, 1, 0, api.ErrRange}, {api.One, -1, 0, api.ErrRange}, {-api.One, -1, 0, api.ErrRange},
		{api.One, 2, api.One / 2 * api.Million, api.OK}, {api.One, -2, -api.One / 2 * api.Million, api.OK},
		{api.One, 0, 0, api.ErrZero}, {-api.One, 0, 0, api.ErrZero},
		// Quotients that lie between two numbers, or in the middle of them.
		{1, 3, 333333, api.OK}, {2, 3, 666667, api.OK}, {-2, 3, -666667, api.OK}, {1, 2000000, 1, api.OK}, {-1, 2000000, 0, api.OK}, {3, -2000000, -1, api.OK},
		{2000000003, 2, 0, api.ErrRange}, {1999999999, 2, 999999999500000, api.OK},
	} {
		if n, err := tangent(x.sine, x.cosine); n != x.want || err != x.err {
			t.Errorf("tangent(%d, %d) = %d, %d, want %d, %d", x.sine, x.cosine, n, err, x.want, x.err)
		}
	}
}
