package wide_test

import (
	"math"
	"math/big"
	"strconv"
	"testing"

	"exchequer/api"
	"exchequer/wide"
)

// TestP5_1FromInt writes out the bits of ints.
func TestP5_1FromInt(t *testing.T) {
	for n, want := range map[int]wide.Int{
		0:               {},
		1:               {Lo: 1},
		-1:              {Hi: ones, Lo: ones},
		-2:              {Hi: ones, Lo: ones - 1},
		math.MaxInt:     {Lo: top - 1},
		math.MinInt:     {Hi: ones, Lo: top},
		math.MinInt + 1: {Hi: ones, Lo: top + 1},
	} {
		if got := wide.FromInt(n); got != want {
			t.Errorf("%d: %v", n, got)
		}
	}
	for _, n := range ints() {
		says(t, strconv.Itoa(n), wide.FromInt(n), api.OK, big.NewInt(int64(n)))
	}
}

// TestP5_1Int asks numbers within an int's bounds and beyond them.
func TestP5_1Int(t *testing.T) {
	for _, x := range []struct {
		a    wide.Int
		want int
		e    api.Errno
	}{
		{wide.Int{}, 0, api.OK},
		{wide.Int{Lo: 5}, 5, api.OK},
		{wide.Int{Hi: ones, Lo: ones}, -1, api.OK},
		{wide.Int{Lo: top - 1}, math.MaxInt, api.OK},
		{wide.Int{Hi: ones, Lo: top}, math.MinInt, api.OK},
		{wide.Int{Lo: top}, 0, api.ErrOverflow},
		{wide.Int{Lo: ones}, 0, api.ErrOverflow},
		{wide.Int{Hi: ones, Lo: top - 1}, 0, api.ErrOverflow},
		{wide.Int{Hi: ones}, 0, api.ErrOverflow},
		{wide.Int{Hi: 1}, 0, api.ErrOverflow},
		{wide.Int{Hi: 1, Lo: 5}, 0, api.ErrOverflow},
		{wide.Int{Hi: ones - 1, Lo: ones}, 0, api.ErrOverflow},
		{wide.Int{Hi: top, Lo: 5}, 0, api.ErrOverflow},
		{least, 0, api.ErrOverflow},
		{greatest, 0, api.ErrOverflow},
		{wide.Mul(1<<62, 2), 0, api.ErrOverflow},
	} {
		if got, e := x.a.Int(); got != x.want || e != x.e {
			t.Errorf("%s: %d, %d", value(x.a), got, e)
		}
	}
	for _, a := range edges() {
		got, e := a.Int()
		if n := value(a); n.IsInt64() && (e != api.OK || int64(got) != n.Int64()) || !n.IsInt64() && (e != api.ErrOverflow || got != 0) {
			t.Errorf("%s: %d, %d", n, got, e)
		}
	}
}

// TestP5_2Sign asks the signs of numbers of either word.
func TestP5_2Sign(t *testing.T) {
	for a, want := range map[wide.Int]int{
		{}:                   0,
		{Lo: 1}:              1,
		{Lo: top}:            1,
		{Hi: 1}:              1,
		greatest:             1,
		{Hi: ones, Lo: ones}: -1,
		{Hi: ones}:           -1,
		least:                -1,
	} {
		if got := a.Sign(); got != want {
			t.Errorf("%s: %d", value(a), got)
		}
	}
	for _, a := range edges() {
		if got := a.Sign(); got != value(a).Sign() {
			t.Errorf("%s: %d", value(a), got)
		}
	}
}

// TestP5_2Cmp holds each of a rising row of numbers against each, and each edge against each.
func TestP5_2Cmp(t *testing.T) {
	row := []wide.Int{least, {Hi: top, Lo: 1}, {Hi: ones}, {Hi: ones, Lo: top}, {Hi: ones, Lo: ones}, {}, {Lo: 1}, {Lo: top}, {Lo: ones}, {Hi: 1}, {Hi: top - 1}, greatest}
	for i, a := range row {
		for k, b := range row {
			if got := a.Cmp(b); got < -1 || got > 1 || (got < 0) != (i < k) || (got > 0) != (i > k) {
				t.Errorf("%s, %s: %d", value(a), value(b), got)
			}
		}
	}
	for _, a := range edges() {
		for _, b := range edges() {
			if got := a.Cmp(b); got != value(a).Cmp(value(b)) {
				t.Errorf("%s, %s: %d", value(a), value(b), got)
			}
		}
	}
}
