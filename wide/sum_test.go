package wide_test

import (
	"math/big"
	"math/rand/v2"
	"testing"

	"exchequer/api"
	"exchequer/wide"
)

// TestP5_2Add writes out sums that a word's end carries over, and such as just overflow and just don't.
func TestP5_2Add(t *testing.T) {
	for _, x := range []struct {
		a, b, want wide.Int
		e          api.Errno
	}{
		{wide.Int{Lo: 2}, wide.Int{Lo: 3}, wide.Int{Lo: 5}, api.OK},
		{wide.Int{Lo: ones}, wide.Int{Lo: 1}, wide.Int{Hi: 1}, api.OK},
		{wide.Int{Hi: ones, Lo: ones}, wide.Int{Lo: 1}, wide.Int{}, api.OK},
		{greatest, wide.Int{}, greatest, api.OK},
		{greatest, least, wide.Int{Hi: ones, Lo: ones}, api.OK},
		{greatest, wide.Int{Lo: 1}, wide.Int{}, api.ErrOverflow},
		{greatest, greatest, wide.Int{}, api.ErrOverflow},
		{least, wide.Int{Hi: ones, Lo: ones}, wide.Int{}, api.ErrOverflow},
		{least, least, wide.Int{}, api.ErrOverflow},
		{wide.Int{Hi: 1 << 62}, wide.Int{Hi: 1<<62 - 1, Lo: ones}, greatest, api.OK},
		{wide.Int{Hi: 1 << 62}, wide.Int{Hi: 1 << 62}, wide.Int{}, api.ErrOverflow},
		{wide.Int{Hi: 3 << 62}, wide.Int{Hi: 3 << 62}, least, api.OK},
		{wide.Int{Hi: 3 << 62}, wide.Int{Hi: 3<<62 - 1, Lo: ones}, wide.Int{}, api.ErrOverflow},
	} {
		for _, pair := range [][2]wide.Int{{x.a, x.b}, {x.b, x.a}} {
			if got, e := pair[0].Add(pair[1]); got != x.want || e != x.e {
				t.Errorf("%s, %s: %s, %d", value(pair[0]), value(pair[1]), value(got), e)
			}
		}
	}
}

// TestP5_2Sub writes out differences that a word's end borrows over, and such as just overflow and just don't.
func TestP5_2Sub(t *testing.T) {
	for _, x := range []struct {
		a, b, want wide.Int
		e          api.Errno
	}{
		{wide.Int{Lo: 2}, wide.Int{Lo: 3}, wide.Int{Hi: ones, Lo: ones}, api.OK},
		{wide.Int{Hi: 1}, wide.Int{Lo: 1}, wide.Int{Lo: ones}, api.OK},
		{wide.Int{}, least, wide.Int{}, api.ErrOverflow},
		{wide.Int{Hi: ones, Lo: ones}, least, greatest, api.OK},
		{least, least, wide.Int{}, api.OK},
		{least, wide.Int{}, least, api.OK},
		{least, wide.Int{Lo: 1}, wide.Int{}, api.ErrOverflow},
		{least, greatest, wide.Int{}, api.ErrOverflow},
		{greatest, wide.Int{Hi: ones, Lo: ones}, wide.Int{}, api.ErrOverflow},
		{greatest, greatest, wide.Int{}, api.OK},
		{wide.Int{Hi: ones, Lo: ones - 1}, greatest, wide.Int{}, api.ErrOverflow},
		{wide.Int{Hi: ones, Lo: ones}, greatest, least, api.OK},
	} {
		if got, e := x.a.Sub(x.b); got != x.want || e != x.e {
			t.Errorf("%s, %s: %s, %d", value(x.a), value(x.b), value(got), e)
		}
	}
}

// TestP5_2Neg turns numbers over; the least alone has no other side.
func TestP5_2Neg(t *testing.T) {
	got, e := least.Neg()
	fails(t, "the least", got, e, api.ErrOverflow)
	for a, want := range map[wide.Int]wide.Int{
		{}:              {},
		{Lo: 1}:         {Hi: ones, Lo: ones},
		{Hi: 1}:         {Hi: ones},
		{Lo: ones}:      {Hi: ones, Lo: 1},
		greatest:        {Hi: top, Lo: 1},
		{Hi: top - 1}:   {Hi: top + 1},
		{Hi: 3, Lo: 10}: {Hi: ones - 3, Lo: ones - 9},
	} {
		got, e := a.Neg()
		back, f := want.Neg()
		if got != want || e != api.OK || back != a || f != api.OK {
			t.Errorf("%s: %s, %d, and back %s, %d", value(a), value(got), e, value(back), f)
		}
	}
	for _, a := range edges() {
		got, e := a.Neg()
		says(t, value(a).String(), got, e, new(big.Int).Neg(value(a)))
	}
}

// sums holds the sum and the difference of two numbers against what they are.
func sums(t *testing.T, a, b wide.Int) {
	t.Helper()
	got, e := a.Add(b)
	says(t, value(a).String()+" + "+value(b).String(), got, e, new(big.Int).Add(value(a), value(b)))
	got, e = a.Sub(b)
	says(t, value(a).String()+" - "+value(b).String(), got, e, new(big.Int).Sub(value(a), value(b)))
}

// TestP5_2Sums adds and takes away each edge and each, and many numbers of any length.
func TestP5_2Sums(t *testing.T) {
	for _, a := range edges() {
		for _, b := range edges() {
			sums(t, a, b)
		}
	}
	r := rand.New(rand.NewPCG(5, 2))
	for range 20000 {
		sums(t, anyWide(r), anyWide(r))
	}
}
