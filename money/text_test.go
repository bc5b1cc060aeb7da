package money_test

import (
	"math/big"
	"math/rand/v2"
	"strconv"
	"strings"
	"testing"

	"exchequer/api"
	"exchequer/money"
)

// TestP6_2Examples is the chapter's examples.
func TestP6_2Examples(t *testing.T) {
	a, e := money.Parse("12.3 USD")
	holds(t, "12.3 USD", a, e, of(1230, "USD"))
	if s := a.String(); s != "12.30 USD" {
		t.Errorf("12.3 USD: %s", s)
	}
	for _, x := range []struct {
		s string
		e api.Errno
	}{
		{"-0 USD", api.ErrForm}, {"1.234 USD", api.ErrScale}, {"1.0 JPY", api.ErrScale}, {"1 XXX", api.ErrCurrency}, {"01 USD", api.ErrForm}, {"1. USD", api.ErrForm},
	} {
		a, e := money.Parse(x.s)
		fails(t, x.s, a, e, x.e)
	}
	if s := of(-5, "KWD").String(); s != "-0.005 KWD" {
		t.Errorf("-5 KWD: %s", s)
	}
	if s := of(7, "JPY").String(); s != "7 JPY" {
		t.Errorf("7 JPY: %s", s)
	}
}

// TestP6_2Parse reads decimals of each scale with fewer digits behind the point than it, and with as many.
func TestP6_2Parse(t *testing.T) {
	for s, units := range map[string]int{
		"0 USD": 0, "0.0 USD": 0, "0.00 USD": 0, "0 JPY": 0, "0 KWD": 0, "0.000 KWD": 0,
		"1 USD": 100, "1.2 USD": 120, "1.23 USD": 123, "1.03 USD": 103, "1.00 USD": 100, "10 USD": 1000, "100.5 USD": 10050,
		"0.01 USD": 1, "-0.01 USD": -1, "0.1 USD": 10, "-0.1 USD": -10, "-1 USD": -100, "-1.2 EUR": -120, "-10.05 GBP": -1005, "9.99 CHF": 999,
		"1 JPY": 1, "-1 JPY": -1, "10 JPY": 10, "1234567890 JPY": 1234567890,
		"1 KWD": 1000, "1.2 KWD": 1200, "1.23 KWD": 1230, "1.234 KWD": 1234, "0.001 KWD": 1, "-0.001 KWD": -1, "-0.01 KWD": -10, "0.100 KWD": 100,
	} {
		a, e := money.Parse(s)
		holds(t, s, a, e, of(units, s[len(s)-3:]))
	}
}

// TestP6_2Form reads what is of no amount's form, each ahead of a fault that comes later, too.
func TestP6_2Form(t *testing.T) {
	for _, s := range []string{
		"", "-", "+", ".", "-.", "00", "01", "-01", "-00", "007", "00.5", "01.5", "+1", "--1", "-+1", "1-", "1.", "-1.", "0.", "-0.", ".5", "-.5", ".", "..", "1..2", "1.2.3", "1.-2", "1.+2", "1,5", "1_000", "1e3", "0x10", "x", "1x", "x1",
		"1.x", "1.5x", "1.x5", "/", ":", "1/", "1:", "1./", "1.:", "\t1", "1\t", "1\n", "\x001", "1\x00", "\u0661", "1.\u0661", "\u2212" + "1", "\uff11", "\xff", "1\xff", "1\xb1", "1.\xb1", "1\u00a0",
		"0" + strings.Repeat("9", 50), "x" + strings.Repeat("9", 50), strings.Repeat("9", 50) + ".", strings.Repeat("9", 50) + "x",
	} {
		for _, cur := range []string{"USD", "JPY", "XXX", "", "usd"} {
			a, e := money.Parse(s + " " + cur)
			fails(t, strconv.Quote(s+" "+cur), a, e, api.ErrForm)
		}
		if !strings.Contains(s, " ") {
			a, e := money.Parse(s)
			fails(t, strconv.Quote(s), a, e, api.ErrForm)
		}
	}
	for _, s := range []string{
		"1", "1.5", "1USD", "USD", " ", "  ", "1  USD", " 1 USD", "1 USD ", "1 U SD", "1 2 USD", "- 1 USD", "1 .5 USD", "1. 5 USD", "1 XXX ", "  USD", " USD", "USD 1", "1\tUSD", "1\nUSD", "1\u00a0USD", "1 1 1", "1.234 USD ", "1 XXX YYY",
	} {
		a, e := money.Parse(s)
		fails(t, strconv.Quote(s), a, e, api.ErrForm)
	}
}

// TestP6_2Faults reads texts that have several faults: the one that the chapter names first is told.
func TestP6_2Faults(t *testing.T) {
	long := strings.Repeat("9", 30)
	for s, want := range map[string]api.Errno{
		"1 ": api.ErrCurrency, "1 usd": api.ErrCurrency, "1 USD\n": api.ErrCurrency, "1 USDX": api.ErrCurrency, "1.234 XXX": api.ErrCurrency, "-0 XXX": api.ErrCurrency, long + " XXX": api.ErrCurrency, "-" + long + ".123456 ": api.ErrCurrency, "1 \xff": api.ErrCurrency,
		"1.000 USD": api.ErrScale, "-0.000 USD": api.ErrScale, "0.000 EUR": api.ErrScale, "0.0 JPY": api.ErrScale, "-0.0 JPY": api.ErrScale, "1.5 JPY": api.ErrScale, "1.2345 KWD": api.ErrScale, "-0.0000 KWD": api.ErrScale,
		long + ".123 USD": api.ErrScale, "-" + long + ".0 JPY": api.ErrScale, "1." + long + " CHF": api.ErrScale, "46116860184273879.050 USD": api.ErrScale,
		"-0 JPY": api.ErrForm, "-0 USD": api.ErrForm, "-0.0 USD": api.ErrForm, "-0.00 USD": api.ErrForm, "-0.000 KWD": api.ErrForm, "-0 KWD": api.ErrForm,
	} {
		a, e := money.Parse(s)
		fails(t, strconv.Quote(s), a, e, want)
	}
}

// TestP6_2Bounds reads amounts next to the bounds, and beyond them.
func TestP6_2Bounds(t *testing.T) {
	for s, units := range map[string]int{
		"4611686018427387904 JPY": most, "-4611686018427387904 JPY": -most, "4611686018427387903 JPY": most - 1, "-4611686018427387903 JPY": -most + 1,
		"46116860184273879.04 USD": most, "-46116860184273879.04 USD": -most, "46116860184273879.03 EUR": most - 1, "46116860184273879 USD": most - 4, "46116860184273879.0 USD": most - 4,
		"4611686018427387.904 KWD": most, "-4611686018427387.904 KWD": -most, "4611686018427387.9 KWD": most - 4,
	} {
		a, e := money.Parse(s)
		holds(t, s, a, e, of(units, s[len(s)-3:]))
	}
	for _, s := range []string{
		"4611686018427387905 JPY", "-4611686018427387905 JPY", "4611686018427387910 JPY", "9223372036854775807 JPY", "9223372036854775808 JPY", "-9223372036854775808 JPY", "18446744073709551616 JPY", "18446744073709551617 JPY", "-18446744073709551615 JPY",
		"46116860184273879.05 USD", "-46116860184273879.05 USD", "46116860184273879.1 USD", "46116860184273880 USD", "46116860184273880.00 GBP", "4611686018427387904 USD", "184467440737095516.16 USD", "184467440737095516.17 USD",
		"4611686018427387.905 KWD", "-4611686018427387.905 KWD", "4611686018427387.91 KWD", "4611686018427388 KWD", "18446744073709552 KWD",
		"1" + strings.Repeat("0", 1<<20) + " USD", "-" + strings.Repeat("9", 1<<20) + ".9 KWD", strings.Repeat("9", 1<<20) + " JPY",
	} {
		a, e := money.Parse(s)
		fails(t, s[:min(len(s), 60)], a, e, api.ErrRange)
	}
}

// TestP6_2String tells units of each scale, ahead of the point one digit at least.
func TestP6_2String(t *testing.T) {
	for s, units := range map[string]int{
		"0.00 USD": 0, "0.01 USD": 1, "-0.01 USD": -1, "0.10 USD": 10, "-0.99 USD": -99, "1.00 USD": 100, "-1.00 USD": -100, "1.01 USD": 101, "9.99 USD": 999, "-10.00 USD": -1000, "12.30 USD": 1230,
		"0 JPY": 0, "1 JPY": 1, "-1 JPY": -1, "10 JPY": 10, "-100 JPY": -100,
		"0.000 KWD": 0, "0.001 KWD": 1, "-0.001 KWD": -1, "0.010 KWD": 10, "0.999 KWD": 999, "-0.999 KWD": -999, "1.000 KWD": 1000, "-1.001 KWD": -1001,
		"46116860184273879.04 USD": most, "-46116860184273879.04 USD": -most, "4611686018427387904 JPY": most, "-4611686018427387904 JPY": -most, "4611686018427387.904 KWD": most, "-4611686018427387.904 KWD": -most,
		"0.00 CHF": 0, "-0.05 EUR": -5, "1234.56 GBP": 123456,
	} {
		if got := of(units, s[len(s)-3:]).String(); got != s {
			t.Errorf("%d: %s, not %s", units, got, s)
		}
	}
}

// TestP6_8ThereAndBack reads what was told, and tells what was read with all digits of the scale.
func TestP6_8ThereAndBack(t *testing.T) {
	back := func(a money.Amount) {
		t.Helper()
		got, e := money.Parse(a.String())
		holds(t, a.String(), got, e, a)
	}
	r := rand.New(rand.NewPCG(6, 8))
	for _, c := range all() {
		for _, n := range bounds() {
			back(of(n, c.Code))
		}
		for n := range 2100 {
			back(of(n, c.Code))
			back(of(-n, c.Code))
		}
		for range 2000 {
			back(of(anyUnits(r), c.Code))
		}
	}
}

// TestP6_8AllDigits reads decimals that lack some digits, and tells them with none lacking.
func TestP6_8AllDigits(t *testing.T) {
	r := rand.New(rand.NewPCG(68, 6))
	for _, c := range all() {
		for range 3000 {
			s := strconv.Itoa(int(anyUnits(r)) / 1000)
			digits := ""
			for range r.IntN(c.Scale + 1) {
				digits += strconv.Itoa(r.IntN(10))
			}
			point := ""
			if digits != "" {
				point = "."
			}
			a, e := money.Parse(s + point + digits + " " + c.Code)
			whole := s
			if c.Scale > 0 {
				whole += "." + digits + strings.Repeat("0", c.Scale-len(digits))
			}
			units, _ := new(big.Int).SetString(strings.ReplaceAll(whole, ".", ""), 10)
			says(t, whole, a, e, units, c.Code)
			if e == api.OK && a.String() != whole+" "+c.Code {
				t.Errorf("%s: %s", whole, a)
			}
		}
	}
}
