package meter_test

import (
	"strconv"
	"testing"

	"exchequer/api"
	"exchequer/meter"
)

// TestP13_2Examples holds the chapter's examples.
func TestP13_2Examples(t *testing.T) {
	m := meter.New()
	ingest(t, m, of("acme", "calls", "k1", 5, 10))
	repeats(t, m, of("acme", "calls", "k1", 5, 10))
	refuses(t, m, of("acme", "calls", "k1", 6, 10), api.ErrConflict)
	ingest(t, m, of("acme", "calls", "k2", 7, 20))
	totals(t, m, "acme", 10, 21, meter.Total{Meter: "calls", Qty: 12, Count: 2})
	totals(t, m, "acme", 11, 20)
	counts(t, m, 2, 1)
	if l := m.Accounts(); len(l) != 1 || l[0] != "acme" {
		t.Error(l)
	}
}

// TestP13_2Conflict sends events that are unlike a known one in one thing only, or in all.
func TestP13_2Conflict(t *testing.T) {
	m, e := meter.New(), event("k", 5, 10)
	ingest(t, m, e, of("b", "gb", "l", 0, 0))
	for _, other := range []meter.Event{
		of("b", "calls", "k", 5, 10), of("acme", "gb", "k", 5, 10), event("k", 4, 10), event("k", 6, 10), event("k", 0, 10), event("k", 5, 9), event("k", 5, 11), event("k", 5, 0), event("k", 10, 5),
		of("calls", "acme", "k", 5, 10), of("b", "gb", "k", 0, 0), of("z", "z", "k", 1<<40, api.MaxInstant),
	} {
		refuses(t, m, other, api.ErrConflict)
		finds(t, m, e)
	}
	repeats(t, m, e)
	repeats(t, m, of("b", "gb", "l", 0, 0))
	counts(t, m, 2, 2)
}

// TestP13_2Keys takes events that are alike but for their keys, which are near one another.
func TestP13_2Keys(t *testing.T) {
	m := meter.New()
	keys := []string{"k", "K", "kk", "k1", "1k", "k-", "k.", "!k", "k~", "0", "00", "~"}
	for i, key := range keys {
		lacks(t, m, key)
		ingest(t, m, event(key, 1, 1))
		counts(t, m, i+1, i)
		repeats(t, m, event(key, 1, 1))
	}
	totals(t, m, "acme", 0, end, meter.Total{Meter: "calls", Qty: len(keys), Count: len(keys)})
}

// TestP13_2Faults sends what may not be, with a key that is known and with one that is not: what Check tells is told first.
func TestP13_2Faults(t *testing.T) {
	m := meter.New()
	ingest(t, m, event("k", 5, 10))
	for _, key := range []string{"k", "l"} {
		for _, x := range []struct {
			e    meter.Event
			want api.Errno
		}{
			{of("", "calls", key, 5, 10), api.ErrName}, {of("acme", "", key, 5, 10), api.ErrName}, {of("Acme", "calls", key, -1, 10), api.ErrName}, {event(key+" ", 5, 10), api.ErrName},
			{event(key, -1, 10), api.ErrRange}, {event(key, 1<<40+1, 10), api.ErrRange}, {event(key, 5, -1), api.ErrRange}, {event(key, 5, api.MaxInstant+1), api.ErrRange},
		} {
			refuses(t, m, x.e, x.want)
		}
	}
	refuses(t, m, meter.Event{}, api.ErrName)
	lacks(t, m, "l")
	lacks(t, m, "")
	counts(t, m, 1, 0)
}

// TestP13_2Edges takes events at all bounds, and sums them up.
func TestP13_2Edges(t *testing.T) {
	m := meter.New()
	first, last := event("a", 0, 0), event("b", 1<<40, api.MaxInstant)
	ingest(t, m, first, last)
	finds(t, m, first)
	finds(t, m, last)
	events(t, m, "acme", 0, end, first, last)
	events(t, m, "acme", 0, api.MaxInstant, first)
	events(t, m, "acme", api.MaxInstant, end, last)
	events(t, m, "acme", end, end)
	totals(t, m, "acme", 0, end, meter.Total{Meter: "calls", Qty: 1 << 40, Count: 2})
	totals(t, m, "acme", 0, 1, meter.Total{Meter: "calls", Qty: 0, Count: 1})
}

// TestP13_2Many fills a meter: what is known is known still, and what has other faults has these.
func TestP13_2Many(t *testing.T) {
	m := meter.New()
	numbered := func(n int) meter.Event { return event("k"+strconv.Itoa(n), 1<<40, n) }
	for n := range api.MaxEvents {
		ingest(t, m, numbered(n))
	}
	counts(t, m, 5000, 0)
	totals(t, m, "acme", 0, end, meter.Total{Meter: "calls", Qty: 5000 << 40, Count: 5000})
	for _, e := range []meter.Event{numbered(5000), event("new", 1, 1), of("b", "gb", "new", 0, 0)} {
		refuses(t, m, e, api.ErrMany)
		lacks(t, m, e.Key)
	}
	repeats(t, m, numbered(0))
	repeats(t, m, numbered(4999))
	refuses(t, m, event("k4999", 1<<40, 1), api.ErrConflict)
	refuses(t, m, event("new", 1, -1), api.ErrRange)
	refuses(t, m, of("B", "gb", "new", 1, 1), api.ErrName)
	refuses(t, m, event("new", 1, 1), api.ErrMany)
	counts(t, m, 5000, 2)
}

// TestP13_2Repeats counts those calls alone that were answered true.
func TestP13_2Repeats(t *testing.T) {
	m, e := meter.New(), event("k", 5, 10)
	counts(t, m, 0, 0)
	ingest(t, m, e)
	for n := range 100 {
		counts(t, m, 1, n)
		repeats(t, m, e)
		refuses(t, m, event("k", 6, 10), api.ErrConflict)
		refuses(t, m, event("", 6, 10), api.ErrName)
		refuses(t, m, event("k", -1, 10), api.ErrRange)
		m.Find("k")
		m.Totals("acme", 0, 20)
	}
	ingest(t, m, event("l", 5, 10))
	counts(t, m, 2, 100)
	other := meter.New()
	ingest(t, other, e)
	counts(t, other, 1, 0)
}
