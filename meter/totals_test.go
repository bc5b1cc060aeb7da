package meter_test

import (
	"math"
	"math/rand/v2"
	"slices"
	"strings"
	"testing"

	"exchequer/api"
	"exchequer/meter"
)

// some is a meter of some events of two accounts and a few meters, in no order.
func some(t *testing.T) *meter.Meter {
	m := meter.New()
	ingest(t, m, of("b", "gb", "z", 1, 5), of("a", "gb", "y", 2, 5), of("a", "calls", "x", 4, 5), of("a", "gb", "w", 8, 9), of("a", "gb", "v", 16, 0))
	return m
}

// TestP13_3Totals sums up by meters, which rise byte by byte, of one account alone.
func TestP13_3Totals(t *testing.T) {
	m := some(t)
	totals(t, m, "a", 0, 10, meter.Total{Meter: "calls", Qty: 4, Count: 1}, meter.Total{Meter: "gb", Qty: 26, Count: 3})
	totals(t, m, "b", 0, 10, meter.Total{Meter: "gb", Qty: 1, Count: 1})
	totals(t, m, "a", 5, 6, meter.Total{Meter: "calls", Qty: 4, Count: 1}, meter.Total{Meter: "gb", Qty: 2, Count: 1})
	totals(t, m, "a", 0, 5, meter.Total{Meter: "gb", Qty: 16, Count: 1})
	totals(t, m, "a", 6, 10, meter.Total{Meter: "gb", Qty: 8, Count: 1})
	totals(t, m, "a", 1, 5)
	totals(t, m, "c", 0, end)
	totals(t, m, "gb", 0, end)
	totals(t, m, "aa", 0, end)
	totals(t, meter.New(), "a", 0, end)
}

// TestP13_3Meters sums up many meters whose names are near one another.
func TestP13_3Meters(t *testing.T) {
	names := []string{"a", "a-", "a--", "a-0", "a-a", "a0", "a0-", "a1", "a10", "a2", "aa", "ab", "b", "b-a", "z", "z-z", "z9", "zz"}
	r := rand.New(rand.NewPCG(13, 3))
	for range 30 {
		m := meter.New()
		var want []meter.Total
		for i, name := range names {
			want = append(want, meter.Total{Meter: name, Qty: 3 * i, Count: 2})
		}
		for i, n := range r.Perm(2 * len(names)) {
			name := names[n/2]
			ingest(t, m, of("a", name, string(rune('!'+i)), n/2*(1+n%2), r.IntN(10)))
		}
		totals(t, m, "a", 0, 10, want...)
	}
}

// TestP13_3Nothing counts events whose quantity is 0: a meter that has nothing else has a total.
func TestP13_3Nothing(t *testing.T) {
	m := meter.New()
	ingest(t, m, of("a", "gb", "k", 0, 5), of("a", "gb", "l", 0, 5))
	totals(t, m, "a", 5, 6, meter.Total{Meter: "gb", Qty: 0, Count: 2})
	totals(t, m, "a", 6, 7)
}

// TestP13_3Bounds asks for times round an event: it is in from its instant on, and not at the end.
func TestP13_3Bounds(t *testing.T) {
	for _, at := range []int{0, 1, 10, api.MaxInstant - 1, api.MaxInstant} {
		m, e := meter.New(), event("k", 3, at)
		ingest(t, m, e)
		for from := max(0, at-2); from <= min(end, at+2); from++ {
			for to := from; to <= min(end, at+3); to++ {
				if from <= at && at < to {
					totals(t, m, "acme", from, to, meter.Total{Meter: "calls", Qty: 3, Count: 1})
					events(t, m, "acme", from, to, e)
				} else {
					totals(t, m, "acme", from, to)
					events(t, m, "acme", from, to)
				}
			}
		}
	}
}

// TestP13_3Faults asks for names and times that may not be: Totals has an error, and Events none to tell.
func TestP13_3Faults(t *testing.T) {
	m := some(t)
	was := state(m)
	for _, x := range []struct {
		from, to int
		want     api.Errno
	}{
		{0, end, api.OK}, {end, end, api.OK}, {0, 0, api.OK}, {5, 5, api.OK}, {5, 6, api.OK},
		{-1, 10, api.ErrRange}, {-1, -1, api.ErrRange}, {-5, -1, api.ErrRange}, {0, -1, api.ErrRange}, {5, 4, api.ErrRange}, {end, 0, api.ErrRange}, {end, end - 1, api.ErrRange},
		{0, end + 1, api.ErrRange}, {end + 1, end + 1, api.ErrRange}, {end + 1, 0, api.ErrRange}, {math.MinInt, math.MaxInt, api.ErrRange}, {0, math.MaxInt, api.ErrRange}, {math.MinInt, 10, api.ErrRange}, {math.MaxInt, math.MinInt, api.ErrRange},
	} {
		if l, e := m.Totals("a", x.from, x.to); e != x.want || e != api.OK && len(l) > 0 {
			t.Errorf("Totals(a, %d, %d): %v, %d", x.from, x.to, l, e)
		}
		if l := m.Events("a", x.from, x.to); x.want != api.OK && len(l) > 0 {
			t.Errorf("Events(a, %d, %d): %v", x.from, x.to, l)
		}
		for _, account := range []string{"", "A", "a ", "a\n", "1", strings.Repeat("a", 31)} {
			if l, e := m.Totals(account, x.from, x.to); e != api.ErrName || len(l) > 0 {
				t.Errorf("Totals(%q, %d, %d): %v, %d", account, x.from, x.to, l, e)
			}
			if l := m.Events(account, x.from, x.to); len(l) > 0 {
				t.Errorf("Events(%q, %d, %d): %v", account, x.from, x.to, l)
			}
		}
	}
	totals(t, m, strings.Repeat("a", 30), 0, end)
	if is := state(m); is != was {
		t.Errorf("%s, not %s", is, was)
	}
}

// TestP13_3Events tells them by their instants, and those of one instant by their keys' bytes.
func TestP13_3Events(t *testing.T) {
	m := some(t)
	events(t, m, "a", 0, 9, of("a", "gb", "v", 16, 0), of("a", "calls", "x", 4, 5), of("a", "gb", "y", 2, 5))
	events(t, m, "b", 0, 9, of("b", "gb", "z", 1, 5))
	events(t, m, "c", 0, 9)
	// Keys of a later instant are less than those of an earlier one: the instant goes first.
	var want []meter.Event
	for i, at := range []int{0, 9, 10, 99, 100, 1 << 39, api.MaxInstant} {
		for _, key := range []string{"", "!", "-", "0", "00", "01", "1", "10", "9", "A", "Z", "a", "a!", "aa", "b", "~", "~~"} {
			want = append(want, of("a", "gb", string(rune('z'-i))+key, len(want), at))
		}
	}
	r := rand.New(rand.NewPCG(13, 33))
	for range 30 {
		m := meter.New()
		ingest(t, m, shuffled(r, want)...)
		events(t, m, "a", 0, end, want...)
	}
}

// TestP13_3Find finds events by whole keys alone.
func TestP13_3Find(t *testing.T) {
	m := some(t)
	finds(t, m, of("b", "gb", "z", 1, 5))
	finds(t, m, of("a", "gb", "v", 16, 0))
	for _, key := range []string{"", "Z", "zz", "z ", "a", "gb", "\xff", strings.Repeat("z", 41), strings.Repeat("z", 1<<16)} {
		lacks(t, m, key)
	}
	lacks(t, meter.New(), "z")
}

// TestP13_3Accounts tells the accounts that have an event, which rise byte by byte.
func TestP13_3Accounts(t *testing.T) {
	names := []string{"a", "a-", "a--", "a-0", "a-a", "a0", "a0-", "a1", "a10", "a2", "aa", "ab", "b", "b-a", "z", "z-z", "z9", "zz"}
	r := rand.New(rand.NewPCG(13, 34))
	for range 30 {
		m := meter.New()
		var there []string
		for i, name := range shuffled(r, names) {
			if got := m.Accounts(); !slices.Equal(got, there) || m.Len() != 3*i {
				t.Fatalf("%q, %d, not %q", got, m.Len(), there)
			}
			for n := range 3 {
				ingest(t, m, of(name, "gb", name+string(rune('0'+n)), n, n))
			}
			m.Ingest(of("new", "gb", name+"0", 0, 0))
			m.Ingest(of("new", "gb", "", 0, 0))
			m.Ingest(of("new", "gb", "new", -1, 0))
			m.Totals("new", 0, 10)
			m.Events("new", 0, 10)
			m.Find("new")
			there = append(there, name)
			slices.Sort(there)
		}
		if got := m.Accounts(); !slices.Equal(got, names) {
			t.Errorf("%q, not %q", got, names)
		}
	}
}

// TestP13_3Empty asks meters of which each has nothing: a new one, the zero one and none.
func TestP13_3Empty(t *testing.T) {
	for _, m := range []*meter.Meter{meter.New(), {}, nil} {
		counts(t, m, 0, 0)
		lacks(t, m, "k")
		totals(t, m, "a", 0, end)
		events(t, m, "a", 0, end)
		if l := m.Accounts(); len(l) != 0 {
			t.Error(l)
		}
		if _, e := m.Totals("A", 0, 1); e != api.ErrName {
			t.Error(e)
		}
		if _, e := m.Totals("a", 1, 0); e != api.ErrRange {
			t.Error(e)
		}
		if _, e := m.Ingest(event("", 0, 0)); e != api.ErrName {
			t.Error(e)
		}
	}
}

// TestP13_2Zero takes events into a meter that New did not make; one that is none has no room.
func TestP13_2Zero(t *testing.T) {
	var m meter.Meter
	ingest(t, &m, event("k", 1, 1))
	repeats(t, &m, event("k", 1, 1))
	counts(t, &m, 1, 1)
	var none *meter.Meter
	refuses(t, none, event("k", 1, 1), api.ErrMany)
	if meter.New() == nil || meter.New() == meter.New() {
		t.Error("New")
	}
}
