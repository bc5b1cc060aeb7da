package wide_test

import (
	"math"
	"math/big"
	"math/rand/v2"
	"strconv"
	"testing"

	"exchequer/api"
	"exchequer/wide"
)

// TestP5_2Mul multiplies each int at the edges with each: there is always a product.
func TestP5_2Mul(t *testing.T) {
	for _, x := range []struct {
		a, b int
		want wide.Int
	}{
		{1 << 62, 4, wide.Int{Hi: 1}},
		{-1 << 62, 4, wide.Int{Hi: ones}},
		{-3, 4, wide.Int{Hi: ones, Lo: ones - 11}},
		{-3, -4, wide.Int{Lo: 12}},
		{0, math.MinInt, wide.Int{}},
		{math.MinInt, math.MinInt, wide.Int{Hi: 1 << 62}},
		{math.MinInt, -1, wide.Int{Lo: top}},
		{math.MinInt, math.MaxInt, wide.Int{Hi: 3 << 62, Lo: top}},
		{math.MaxInt, math.MaxInt, wide.Int{Hi: 1<<62 - 1, Lo: 1}},
	} {
		if got := wide.Mul(x.a, x.b); got != x.want {
			t.Errorf("%d, %d: %s", x.a, x.b, value(got))
		}
	}
	for _, a := range ints() {
		for _, b := range ints() {
			says(t, strconv.Itoa(a)+" * "+strconv.Itoa(b), wide.Mul(a, b), api.OK, new(big.Int).Mul(big.NewInt(int64(a)), big.NewInt(int64(b))))
		}
	}
}

// TestP5_2MulInt writes out products that just overflow and such as just don't.
func TestP5_2MulInt(t *testing.T) {
	for _, x := range []struct {
		a    wide.Int
		n    int
		want wide.Int
		e    api.Errno
	}{
		{wide.Int{Lo: 6}, 7, wide.Int{Lo: 42}, api.OK},
		{wide.Int{Lo: top}, 2, wide.Int{Hi: 1}, api.OK},
		{least, 0, wide.Int{}, api.OK},
		{wide.Int{}, math.MinInt, wide.Int{}, api.OK},
		{least, 1, least, api.OK},
		{least, -1, wide.Int{}, api.ErrOverflow},
		{least, 2, wide.Int{}, api.ErrOverflow},
		{least, math.MinInt, wide.Int{}, api.ErrOverflow},
		{greatest, 1, greatest, api.OK},
		{greatest, -1, wide.Int{Hi: top, Lo: 1}, api.OK},
		{greatest, 2, wide.Int{}, api.ErrOverflow},
		{greatest, math.MaxInt, wide.Int{}, api.ErrOverflow},
		{wide.Int{Hi: 1 << 62}, 2, wide.Int{}, api.ErrOverflow},
		{wide.Int{Hi: 1 << 62}, -2, least, api.OK},
		{wide.Int{Hi: 3 << 62}, 2, least, api.OK},
		{wide.Int{Hi: 3 << 62}, -2, wide.Int{}, api.ErrOverflow},
		{wide.Int{Hi: 1<<62 - 1, Lo: ones}, 2, wide.Int{Hi: top - 1, Lo: ones - 1}, api.OK},
		{wide.Int{Hi: 1}, math.MaxInt, wide.Int{Hi: top - 1}, api.OK},
		{wide.Int{Hi: 1}, math.MinInt, least, api.OK},
		{wide.Int{Hi: ones}, math.MinInt, wide.Int{}, api.ErrOverflow},
		{wide.Int{Hi: 1, Lo: 1}, math.MinInt, wide.Int{}, api.ErrOverflow},
		{wide.Int{Hi: 1, Lo: 1}, math.MaxInt, wide.Int{Hi: top - 1, Lo: top - 1}, api.OK},
		{wide.Int{Hi: 1, Lo: 2}, math.MaxInt, wide.Int{Hi: top - 1, Lo: ones - 1}, api.OK},
		{wide.Int{Hi: 1, Lo: 3}, math.MaxInt, wide.Int{}, api.ErrOverflow},
		{wide.Int{Hi: 2}, math.MinInt, wide.Int{}, api.ErrOverflow},
	} {
		if got, e := x.a.MulInt(x.n); got != x.want || e != x.e {
			t.Errorf("%s, %d: %s, %d", value(x.a), x.n, value(got), e)
		}
	}
}

// TestP5_2Products multiplies each edge with each int at the edges, and many of any length.
func TestP5_2Products(t *testing.T) {
	product := func(a wide.Int, n int) {
		t.Helper()
		got, e := a.MulInt(n)
		says(t, value(a).String()+" * "+strconv.Itoa(n), got, e, new(big.Int).Mul(value(a), big.NewInt(int64(n))))
	}
	for _, a := range edges() {
		for _, n := range ints() {
			product(a, n)
		}
	}
	r := rand.New(rand.NewPCG(5, 22))
	for range 20000 {
		product(anyWide(r), anyInt(r))
	}
}

// TestP5_3Zero divides by 0, which is told ahead of all else.
func TestP5_3Zero(t *testing.T) {
	for _, a := range edges() {
		quotient, rest, e := a.QuoRem(0)
		fails(t, value(a).String(), quotient, e, api.ErrZero)
		if rest != 0 {
			t.Errorf("%s: the rest is %d", value(a), rest)
		}
		even, e := a.DivEven(0)
		fails(t, value(a).String(), even, e, api.ErrZero)
	}
}

// TestP5_3QuoRem writes out quotients and rests of either sign.
func TestP5_3QuoRem(t *testing.T) {
	for _, x := range []struct {
		a    wide.Int
		d    int
		want wide.Int
		rest int
	}{
		{wide.FromInt(7), 2, wide.FromInt(3), 1},
		{wide.FromInt(-7), 2, wide.FromInt(-3), -1},
		{wide.FromInt(7), -2, wide.FromInt(-3), 1},
		{wide.FromInt(-7), -2, wide.FromInt(3), -1},
		{wide.FromInt(-6), 2, wide.FromInt(-3), 0},
		{wide.FromInt(1), math.MinInt, wide.Int{}, 1},
		{wide.FromInt(-1), math.MaxInt, wide.Int{}, -1},
		{wide.Int{}, -5, wide.Int{}, 0},
		{wide.FromInt(math.MinInt), -1, wide.Int{Lo: top}, 0},
		{wide.Int{Hi: 1}, 1 << 32, wide.Int{Lo: 1 << 32}, 0},
		{greatest, 1, greatest, 0},
		{greatest, -1, wide.Int{Hi: top, Lo: 1}, 0},
		{greatest, math.MinInt, wide.Int{Hi: ones, Lo: 1}, math.MaxInt},
		{greatest, math.MaxInt, wide.Int{Hi: 1, Lo: 2}, 1},
		{least, 1, least, 0},
		{least, 2, wide.Int{Hi: 3 << 62}, 0},
		{least, -2, wide.Int{Hi: 1 << 62}, 0},
		{least, math.MinInt, wide.Int{Hi: 1}, 0},
		{wide.Int{Hi: top, Lo: 1}, math.MinInt, wide.Int{Lo: ones}, -math.MaxInt},
	} {
		if got, rest, e := x.a.QuoRem(x.d); got != x.want || rest != x.rest || e != api.OK {
			t.Errorf("%s, %d: %s, %d, %d", value(x.a), x.d, value(got), rest, e)
		}
	}
	got, rest, e := least.QuoRem(-1)
	fails(t, "the least by -1", got, e, api.ErrOverflow)
	if rest != 0 {
		t.Errorf("the least by -1: the rest is %d", rest)
	}
}

// TestP5_3DivEven writes out halves, and what stands next to them, of either sign.
func TestP5_3DivEven(t *testing.T) {
	for _, x := range []struct{ a, d, want int }{
		{5, 2, 2}, {7, 2, 4}, {-5, 2, -2}, {-7, 2, -4}, {5, -2, -2}, {7, -2, -4}, {-5, -2, 2}, {-7, -2, 4},
		{1, 2, 0}, {-1, 2, 0}, {1, -2, 0}, {3, 2, 2}, {-3, 2, -2}, {6, 2, 3},
		{1, 3, 0}, {2, 3, 1}, {-1, 3, 0}, {-2, 3, -1}, {4, 3, 1}, {5, 3, 2}, {-4, -3, 1}, {5, -3, -2},
		{15, 10, 2}, {25, 10, 2}, {24, 10, 2}, {26, 10, 3}, {35, 10, 4}, {-25, 10, -2}, {-26, 10, -3},
		{1 << 62, math.MinInt, 0}, {1<<62 + 1, math.MinInt, -1}, {-1 << 62, math.MinInt, 0}, {-1<<62 - 1, math.MinInt, 1},
		{1<<62 - 1, math.MaxInt, 0}, {1 << 62, math.MaxInt, 1}, {-1<<62 + 1, math.MaxInt, 0}, {-1 << 62, math.MaxInt, -1},
		{math.MaxInt, math.MinInt, -1}, {math.MinInt, math.MaxInt, -1}, {math.MinInt, math.MinInt, 1}, {0, 7, 0}, {9, 1, 9}, {9, -1, -9},
	} {
		if got, e := wide.FromInt(x.a).DivEven(x.d); got != wide.FromInt(x.want) || e != api.OK {
			t.Errorf("%d, %d: %s, %d", x.a, x.d, value(got), e)
		}
	}
	for _, x := range []struct {
		a    wide.Int
		d    int
		want wide.Int
	}{
		{wide.Int{Hi: 1, Lo: top}, math.MinInt, wide.FromInt(-3)},
		{wide.Int{Hi: 1, Lo: 1 << 62}, math.MinInt, wide.FromInt(-2)},
		{wide.Int{Hi: 1, Lo: 3 << 62}, math.MinInt, wide.FromInt(-4)},
		{wide.Int{Hi: 1, Lo: ones}, 2, wide.Int{Hi: 1}},
		{wide.Int{Hi: 1, Lo: ones - 2}, 2, wide.Int{Lo: ones - 1}},
		{greatest, 2, wide.Int{Hi: 1 << 62}},
		{greatest, -2, wide.Int{Hi: 3 << 62}},
		{greatest, 1, greatest},
		{least, 1, least},
		{least, 2, wide.Int{Hi: 3 << 62}},
	} {
		if got, e := x.a.DivEven(x.d); got != x.want || e != api.OK {
			t.Errorf("%s, %d: %s, %d", value(x.a), x.d, value(got), e)
		}
	}
	got, e := least.DivEven(-1)
	fails(t, "the least by -1", got, e, api.ErrOverflow)
}

// nearest is the nearest whole number to a quotient, of two the even one, sought among the three next to the one below.
func nearest(a, d *big.Int) *big.Int {
	q := new(big.Int).Quo(a, d)
	best, distance := new(big.Int), new(big.Int)
	for i := int64(-1); i <= 1; i++ {
		n := new(big.Int).Add(q, big.NewInt(i))
		far := new(big.Int).Sub(a, new(big.Int).Mul(n, d))
		far.Abs(far)
		if c := far.Cmp(distance); i == -1 || c < 0 || c == 0 && n.Bit(0) == 0 {
			best, distance = n, far
		}
	}
	return best
}

// quotients holds the quotients of two numbers against what they are.
func quotients(t *testing.T, a wide.Int, d int) {
	t.Helper()
	what := value(a).String() + " / " + strconv.Itoa(d)
	q, r := new(big.Int).QuoRem(value(a), big.NewInt(int64(d)), new(big.Int))
	got, rest, e := a.QuoRem(d)
	says(t, what, got, e, q)
	if e == api.OK && int64(rest) != r.Int64() {
		t.Errorf("%s: the rest is %d, not %s", what, rest, r)
	}
	got, e = a.DivEven(d)
	says(t, what+", even", got, e, nearest(value(a), big.NewInt(int64(d))))
}

// TestP5_3Quotients divides each edge by each int at the edges, many numbers of any length, and many next to halves.
func TestP5_3Quotients(t *testing.T) {
	for _, a := range edges() {
		for _, d := range ints() {
			if d != 0 {
				quotients(t, a, d)
			}
		}
	}
	r := rand.New(rand.NewPCG(5, 3))
	for range 20000 {
		a, d := anyWide(r), anyInt(r)
		if d == 0 {
			continue
		}
		quotients(t, a, d)
		half := wide.Mul(anyInt(r)/2, d)
		for i := -1; i <= 1; i++ {
			if near, e := half.Add(wide.FromInt(d/2 + i)); e == api.OK {
				quotients(t, near, d)
			}
		}
	}
}
