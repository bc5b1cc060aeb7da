package meter_test

import (
	"fmt"
	"math/rand/v2"
	"slices"
	"strconv"
	"strings"
	"testing"

	"exchequer/api"
	"exchequer/meter"
)

// end is behind the last instant.
const end = api.MaxInstant + 1

// ingester is what takes events: a meter, or a model.
type ingester interface {
	Ingest(e meter.Event) (bool, api.Errno)
}

// event is an event of an account and a meter that are mostly the same.
func event(key string, qty, at int) meter.Event {
	return meter.Event{Key: key, Account: "acme", Meter: "calls", Qty: qty, At: at}
}

// of is an event of another account and meter.
func of(account, name, key string, qty, at int) meter.Event {
	return meter.Event{Key: key, Account: account, Meter: name, Qty: qty, At: at}
}

// ingest takes events that are new.
func ingest(t *testing.T, m ingester, l ...meter.Event) {
	t.Helper()
	for _, e := range l {
		if known, bad := m.Ingest(e); known || bad != api.OK {
			t.Fatalf("Ingest(%+v): %v, %d", e, known, bad)
		}
	}
}

// refuses holds Ingest to have that fault, which changes nothing.
func refuses(t *testing.T, m *meter.Meter, e meter.Event, want api.Errno) {
	t.Helper()
	was := state(m)
	if known, bad := m.Ingest(e); known || bad != want {
		t.Errorf("Ingest(%+v): %v, %d, not %d", e, known, bad, want)
	}
	if is := state(m); is != was {
		t.Errorf("Ingest(%+v): %.500s, not %.500s", e, is, was)
	}
}

// repeats holds Ingest to know an event, of which nothing but the number of repeats is new.
func repeats(t *testing.T, m *meter.Meter, e meter.Event) {
	t.Helper()
	n, was := m.Repeats(), whole(m)
	if known, bad := m.Ingest(e); !known || bad != api.OK {
		t.Errorf("Ingest(%+v): %v, %d", e, known, bad)
	}
	if is := whole(m); is != was || m.Repeats() != n+1 {
		t.Errorf("Ingest(%+v): %d repeats, not %d; %.500s, not %.500s", e, m.Repeats(), n+1, is, was)
	}
}

// totals holds Totals against those.
func totals(t *testing.T, m *meter.Meter, account string, from, to int, want ...meter.Total) {
	t.Helper()
	if l, e := m.Totals(account, from, to); !slices.Equal(l, want) || e != api.OK {
		t.Errorf("Totals(%s, %d, %d): %v, %d, not %v", account, from, to, l, e, want)
	}
}

// events holds Events against those.
func events(t *testing.T, m *meter.Meter, account string, from, to int, want ...meter.Event) {
	t.Helper()
	if l := m.Events(account, from, to); !slices.Equal(l, want) {
		t.Errorf("Events(%s, %d, %d): %v, not %v", account, from, to, l, want)
	}
}

// finds holds Find to answer an event.
func finds(t *testing.T, m *meter.Meter, want meter.Event) {
	t.Helper()
	if e, is := m.Find(want.Key); e != want || !is {
		t.Errorf("Find(%q): %+v, %v, not %+v", want.Key, e, is, want)
	}
}

// lacks holds Find to answer that there is none.
func lacks(t *testing.T, m *meter.Meter, key string) {
	t.Helper()
	if e, is := m.Find(key); e != (meter.Event{}) || is {
		t.Errorf("Find(%q): %+v, %v", key, e, is)
	}
}

// counts holds Len and Repeats against those.
func counts(t *testing.T, m *meter.Meter, events, repeats int) {
	t.Helper()
	if m.Len() != events || m.Repeats() != repeats {
		t.Errorf("%d events, not %d; %d repeats, not %d", m.Len(), events, m.Repeats(), repeats)
	}
}

// whole is all that a meter, or its model, tells of its events, as a text: of each account the events, each of them found by its key, too, and the totals.
func whole(m platform) string {
	var b strings.Builder
	fmt.Fprintf(&b, "%q, %d events\n", m.Accounts(), m.Len())
	for _, account := range m.Accounts() {
		l := m.Events(account, 0, end)
		for _, e := range l {
			found, is := m.Find(e.Key)
			fmt.Fprintf(&b, "%+v %v\n", e, is && found == e)
		}
		for _, to := range []int{10, 20, end} {
			totals, e := m.Totals(account, 0, to)
			fmt.Fprintf(&b, "to %d: %+v %d\n", to, totals, e)
		}
	}
	return b.String()
}

// state is all that a meter, or its model, tells.
func state(m platform) string { return whole(m) + strconv.Itoa(m.Repeats()) + " repeats" }

// pick is one of several.
func pick[T any](r *rand.Rand, l ...T) T { return l[r.IntN(len(l))] }

// shuffled are the same in another order.
func shuffled[T any](r *rand.Rand, l []T) []T {
	l = slices.Clone(l)
	r.Shuffle(len(l), func(i, k int) { l[i], l[k] = l[k], l[i] })
	return l
}
