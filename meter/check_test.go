package meter_test

import (
	"math"
	"strings"
	"testing"

	"exchequer/api"
	"exchequer/meter"
)

// checks holds Check to answer that of an event.
func checks(t *testing.T, e meter.Event, want api.Errno) {
	t.Helper()
	if bad := meter.Check(e); bad != want {
		t.Errorf("Check(%+v): %d, not %d", e, bad, want)
	}
}

// TestP13_1Examples holds the chapter's examples.
func TestP13_1Examples(t *testing.T) {
	checks(t, of("acme", "calls", "a b", 1, 1), api.ErrName)
	checks(t, of("Acme", "calls", "k", 1, 1), api.ErrName)
	checks(t, of("acme", "calls", "k", -1, 1), api.ErrRange)
	checks(t, of("acme", "calls", "k", 1, 1), api.OK)
}

// TestP13_1Keys looks at keys of each byte and each length, and at runes that are more than a byte.
func TestP13_1Keys(t *testing.T) {
	for c := range 256 {
		want := api.ErrName
		if 0x21 <= c && c <= 0x7e {
			want = api.OK
		}
		b := string([]byte{byte(c)})
		for _, key := range []string{b, b + "k", "k" + b, "k" + b + "k", strings.Repeat("k", 39) + b} {
			checks(t, event(key, 1, 1), want)
		}
	}
	for n := range 100 {
		want := api.ErrName
		if 1 <= n && n <= 40 {
			want = api.OK
		}
		checks(t, event(strings.Repeat("~", n), 1, 1), want)
	}
	for _, key := range []string{"é", "k\u2028", "\xff\xfe", "\u0121", "日", strings.Repeat("é", 20), strings.Repeat("k", 1<<20)} {
		checks(t, event(key, 1, 1), api.ErrName)
	}
	for _, key := range []string{"!", "~", "A/b:c%d", `"`, `\`, "-1", "0"} {
		checks(t, event(key, 1, 1), api.OK)
	}
}

// TestP13_1Names looks at names of accounts and of meters, each beside another one that may be.
func TestP13_1Names(t *testing.T) {
	long := strings.Repeat("a", 30)
	for name, want := range map[string]api.Errno{
		"a": api.OK, "z": api.OK, "a-": api.OK, "a0": api.OK, "a--9": api.OK, long: api.OK, "gb-per-day2": api.OK,
		"": api.ErrName, "A": api.ErrName, "1a": api.ErrName, "-a": api.ErrName, "a b": api.ErrName, "a_b": api.ErrName, "aB": api.ErrName,
		"a\n": api.ErrName, "a\x00": api.ErrName, "é": api.ErrName, "a.b": api.ErrName, long + "a": api.ErrName, "`": api.ErrName, "{": api.ErrName, "a/": api.ErrName, "a:": api.ErrName,
	} {
		checks(t, of(name, "calls", "k", 1, 1), want)
		checks(t, of("acme", name, "k", 1, 1), want)
		checks(t, of(name, name, "k", 1, 1), want)
	}
}

// bounds are numbers round those that may be, and whether each may.
func bounds(last int) map[int]api.Errno {
	return map[int]api.Errno{
		0: api.OK, 1: api.OK, 1000: api.OK, last - 1: api.OK, last: api.OK,
		-1: api.ErrRange, -last: api.ErrRange, last + 1: api.ErrRange, math.MinInt: api.ErrRange, math.MaxInt: api.ErrRange,
	}
}

// TestP13_1Ranges looks at quantities and instants at their bounds and beyond.
func TestP13_1Ranges(t *testing.T) {
	for qty, want := range bounds(1 << 40) {
		checks(t, event("k", qty, 1), want)
		checks(t, event("k", qty, -1), api.ErrRange)
	}
	for at, want := range bounds(api.MaxInstant) {
		checks(t, event("k", 1, at), want)
		checks(t, event("k", -1, at), api.ErrRange)
	}
}

// TestP13_1Order looks at all sets of faults: a name's is told first.
func TestP13_1Order(t *testing.T) {
	for bits := range 32 {
		e, want := event("k", 1, 1), api.OK
		if bits&8 != 0 {
			e.Qty, want = -1, api.ErrRange
		}
		if bits&16 != 0 {
			e.At, want = api.MaxInstant+1, api.ErrRange
		}
		for i, name := range []*string{&e.Key, &e.Account, &e.Meter} {
			if bits>>i&1 != 0 {
				*name, want = "a b", api.ErrName
			}
		}
		checks(t, e, want)
		checks(t, e, checked(e))
		if known, bad := meter.New().Ingest(e); known || bad != want {
			t.Errorf("Ingest(%+v): %v, %d", e, known, bad)
		}
	}
}
