package wide_test

import (
	"math/big"
	"math/rand/v2"
	"strings"
	"testing"

	"exchequer/api"
	"exchequer/wide"
)

// TestP5_4Texts writes out numbers and their digits, read and told.
func TestP5_4Texts(t *testing.T) {
	for s, a := range map[string]wide.Int{
		"0":                     {},
		"7":                     {Lo: 7},
		"10":                    {Lo: 10},
		"-1":                    {Hi: ones, Lo: ones},
		"-100":                  {Hi: ones, Lo: ones - 99},
		"9223372036854775807":   {Lo: top - 1},
		"9223372036854775808":   {Lo: top},
		"-9223372036854775808":  {Hi: ones, Lo: top},
		"-9223372036854775809":  {Hi: ones, Lo: top - 1},
		"10000000000000000000":  {Lo: 1e19},
		"18446744073709551615":  {Lo: ones},
		"18446744073709551616":  {Hi: 1},
		"-18446744073709551616": {Hi: ones},
		"100000000000000000000000000000000000000":  {Hi: 0x4b3b4ca85a86c47a, Lo: 0x098a224000000000},
		"170141183460469231731687303715884105727":  greatest,
		"-170141183460469231731687303715884105727": {Hi: top, Lo: 1},
		"-170141183460469231731687303715884105728": least,
	} {
		if got := a.String(); got != s {
			t.Errorf("%v: %s, not %s", a, got, s)
		}
		if got, e := wide.Parse(s); got != a || e != api.OK {
			t.Errorf("%s: %v, %d", s, got, e)
		}
	}
}

// TestP5_4Form reads what is no number's one form, be it within the bounds or not.
func TestP5_4Form(t *testing.T) {
	long := strings.Repeat("9", 100)
	for _, s := range []string{
		"", "-", "+", "-0", "+0", "00", "01", "-01", "-00", "007", "+1", "--1", "-+1", "1-", "-1-", "1+",
		" 1", "1 ", " ", "\t1", "1\n", "- 1", "1 2", "\x001", "1\x00", "1_000", "1,000", "1.0", "1.", ".1", "1e3", "0x10", "x", "1x", "x1", "a", "/", ":", "1/", "1:",
		"\u0661", "1\u0661", "\u2212" + "1", "\uff11", "\xff", "1\xff", "\xb1",
		long + "x", "x" + long, "0" + long, "-0" + long, long + "-", long + " ", "+" + long, "--" + long, long + "\xb0",
	} {
		got, e := wide.Parse(s)
		fails(t, s, got, e, api.ErrForm)
	}
}

// TestP5_4Range reads numbers beyond the bounds.
func TestP5_4Range(t *testing.T) {
	for _, s := range []string{
		"170141183460469231731687303715884105728", "-170141183460469231731687303715884105729",
		"170141183460469231731687303715884105729", "-170141183460469231731687303715884105730",
		"340282366920938463463374607431768211455", "340282366920938463463374607431768211456", "340282366920938463463374607431768211457",
		"-340282366920938463463374607431768211455", "-340282366920938463463374607431768211456", "-340282366920938463463374607431768211457",
		"510423550381407695195061911147652317183", "999999999999999999999999999999999999999", "-999999999999999999999999999999999999999",
		"1000000000000000000000000000000000000000", "6277101735386680763835789423207666416102355444464034512896",
		"1" + strings.Repeat("0", 1<<20), "-" + strings.Repeat("9", 1<<20),
	} {
		got, e := wide.Parse(s)
		fails(t, s[:min(len(s), 60)], got, e, api.ErrRange)
	}
}

// TestP5_4Bounds reads each number next to powers of 2 and of 10, within the bounds and beyond them.
func TestP5_4Bounds(t *testing.T) {
	var l []*big.Int
	for n := range uint(140) {
		l = append(l, power(n), new(big.Int).Exp(big.NewInt(10), big.NewInt(int64(n)), nil))
	}
	for _, n := range l {
		for d := int64(-11); d <= 11; d++ {
			m := new(big.Int).Add(n, big.NewInt(d))
			for _, x := range []*big.Int{m, new(big.Int).Neg(m)} {
				got, e := wide.Parse(x.String())
				if !within(x) {
					fails(t, x.String(), got, e, api.ErrRange)
					continue
				}
				says(t, x.String(), got, e, x)
				if got.String() != x.String() {
					t.Errorf("String: %s, not %s", got, x)
				}
			}
		}
	}
}

// TestP5_6ThereAndBack reads what was told, and makes ints of what ints made.
func TestP5_6ThereAndBack(t *testing.T) {
	back := func(a wide.Int) {
		t.Helper()
		if got, e := wide.Parse(a.String()); got != a || e != api.OK {
			t.Errorf("%s: %s, %d", value(a), value(got), e)
		}
	}
	same := func(n int) {
		t.Helper()
		if got, e := wide.FromInt(n).Int(); got != n || e != api.OK {
			t.Errorf("%d: %d, %d", n, got, e)
		}
		back(wide.FromInt(n))
	}
	for _, a := range edges() {
		back(a)
	}
	for _, n := range ints() {
		same(n)
	}
	r := rand.New(rand.NewPCG(5, 6))
	for range 20000 {
		back(anyWide(r))
		same(anyInt(r))
	}
}
