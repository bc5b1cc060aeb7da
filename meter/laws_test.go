package meter_test

import (
	"math/rand/v2"
	"slices"
	"strconv"
	"testing"

	"exchequer/api"
	"exchequer/meter"
)

// row is a row of events whose keys are all unlike.
func row(r *rand.Rand, n int) []meter.Event {
	var l []meter.Event
	for i := range n {
		l = append(l, of(pick(r, accounts...), pick(r, meters...), "k"+strconv.Itoa(i), r.IntN(100), r.IntN(40)))
	}
	return l
}

// TestP13_5Once sends events in any order, and each of them any number of times: what is told of them is the same.
func TestP13_5Once(t *testing.T) {
	r := rand.New(rand.NewPCG(13, 5))
	for range 100 {
		l := row(r, 1+r.IntN(60))
		m := meter.New()
		ingest(t, m, l...)
		want := whole(m)
		sent := slices.Clone(l)
		for range r.IntN(150) {
			sent = append(sent, pick(r, l...))
		}
		x := meter.New()
		for _, e := range shuffled(r, sent) {
			_, there := x.Find(e.Key)
			if known, bad := x.Ingest(e); known != there || bad != api.OK {
				t.Fatalf("Ingest(%+v): %v, %d", e, known, bad)
			}
		}
		if got := whole(x); got != want {
			t.Fatalf("%s, not %s", got, want)
		}
		counts(t, x, len(l), len(sent)-len(l))
	}
}

// TestP13_5There sends unlike events of a few keys: of each key the first one is there, and totals are those of what is there.
func TestP13_5There(t *testing.T) {
	r := rand.New(rand.NewPCG(13, 55))
	conflicts := 0
	for range 100 {
		m := meter.New()
		first := map[string]meter.Event{}
		for range 100 {
			e := of(pick(r, accounts...), pick(r, meters...), "k"+strconv.Itoa(r.IntN(30)), r.IntN(2), r.IntN(2))
			was, there := first[e.Key]
			if !there {
				was, first[e.Key] = e, e
			}
			known, bad := m.Ingest(e)
			if known != (there && was == e) || (bad == api.ErrConflict) != (was != e) {
				t.Fatalf("Ingest(%+v): %v, %d", e, known, bad)
			}
			if was != e {
				conflicts++
			}
			finds(t, m, was)
		}
		counted := 0
		for _, account := range m.Accounts() {
			l := m.Events(account, 0, end)
			for _, e := range l {
				if first[e.Key] != e || e.Account != account {
					t.Errorf("%+v, not %+v", e, first[e.Key])
				}
			}
			counted += len(l)
			totals(t, m, account, 0, end, summed(l)...)
		}
		if counted != len(first) || m.Len() != len(first) {
			t.Errorf("%d, %d of %d", counted, m.Len(), len(first))
		}
	}
	if conflicts < 1000 {
		t.Errorf("%d conflicts", conflicts)
	}
}

// summed are the totals of events, worked out meter by meter.
func summed(l []meter.Event) []meter.Total {
	var sums []meter.Total
	for _, name := range slices.Sorted(slices.Values(meters)) {
		total := meter.Total{Meter: name}
		for _, e := range l {
			if e.Meter == name {
				total.Qty, total.Count = total.Qty+e.Qty, total.Count+1
			}
		}
		if total.Count > 0 {
			sums = append(sums, total)
		}
	}
	return sums
}

// added are the sums of totals, meter by meter.
func added(parts ...[]meter.Total) map[string]meter.Total {
	sums := map[string]meter.Total{}
	for _, part := range parts {
		for _, x := range part {
			was := sums[x.Meter]
			sums[x.Meter] = meter.Total{Meter: x.Meter, Qty: was.Qty + x.Qty, Count: was.Count + x.Count}
		}
	}
	return sums
}

// TestP13_6Parts cuts times in parts at any instants: the totals of the whole are the sums of the parts' totals, and its events are theirs, one behind the other.
func TestP13_6Parts(t *testing.T) {
	r := rand.New(rand.NewPCG(13, 6))
	for range 300 {
		m := meter.New()
		ingest(t, m, row(r, r.IntN(80))...)
		// An instant may be cut at twice: a part without one sums up to nothing.
		var cuts []int
		for range 2 + r.IntN(6) {
			cuts = append(cuts, pick(r, r.IntN(41), r.IntN(41), 0, end))
		}
		slices.Sort(cuts)
		for _, account := range accounts {
			var parts [][]meter.Total
			var l []meter.Event
			for i, to := range cuts[1:] {
				part, e := m.Totals(account, cuts[i], to)
				if e != api.OK {
					t.Fatalf("%d to %d: %d", cuts[i], to, e)
				}
				parts = append(parts, part)
				l = append(l, m.Events(account, cuts[i], to)...)
			}
			from, to := cuts[0], cuts[len(cuts)-1]
			var want []meter.Total
			for _, name := range slices.Sorted(slices.Values(meters)) {
				if x, is := added(parts...)[name]; is {
					want = append(want, x)
				}
			}
			totals(t, m, account, from, to, want...)
			events(t, m, account, from, to, l...)
		}
	}
}
