package meter_test

import (
	"slices"
	"strings"
	"testing"
	"unsafe"

	"exchequer/api"
	"exchequer/meter"
)

// spoil writes to the bytes of texts that are in memory of their own.
func spoil(l ...string) {
	for _, s := range l {
		for i := range len(s) {
			unsafe.Slice(unsafe.StringData(s), len(s))[i] ^= 0x15
		}
	}
}

// spoilAll writes to all of a list, and to the texts that each item has; the room behind the list is written to, too.
func spoilAll[T any](l []T, texts func(T) []string) {
	for _, x := range l {
		spoil(texts(x)...)
	}
	clear(l[:cap(l)])
}

// Of each kind of item the texts that it has.
func textsOfEvent(e meter.Event) []string { return []string{e.Key, e.Account, e.Meter} }
func textsOfTotal(t meter.Total) []string { return []string{t.Meter} }
func textsOfName(s string) []string       { return []string{s} }

// cloned is an event whose texts are in memory of their own.
func cloned(e meter.Event) meter.Event {
	e.Key, e.Account, e.Meter = strings.Clone(e.Key), strings.Clone(e.Account), strings.Clone(e.Meter)
	return e
}

// TestP13_4HandedIn hands texts in, which are as they were then, and spoils them: nothing that is told hangs on them.
func TestP13_4HandedIn(t *testing.T) {
	m, want := meter.New(), meter.New()
	for i, key := range []string{"k1", "k2", "k0", "k11"} {
		for range 2 {
			e := of(accounts[i%2], meters[i%3], key, i, 10-i)
			known, bad := want.Ingest(e)
			mine := cloned(e)
			if k, b := m.Ingest(mine); k != known || b != bad || mine != e {
				t.Fatalf("%v, %d; %+v, not %+v", k, b, mine, e)
			}
			spoil(textsOfEvent(mine)...)
			if is, was := state(m), state(want); is != was {
				t.Fatalf("%s, not %s", is, was)
			}
		}
	}
	e := cloned(event("k1", 99, 99))
	if _, bad := m.Ingest(e); bad != api.ErrConflict || e != event("k1", 99, 99) || meter.Check(e) != api.OK {
		t.Errorf("%d, %+v", bad, e)
	}
	spoil(textsOfEvent(e)...)
	name := strings.Clone("acme")
	m.Totals(name, 0, end)
	m.Events(name, 0, end)
	m.Find(name)
	if name != "acme" {
		t.Error(name)
	}
	spoil(name)
	if is, was := state(m), state(want); is != was {
		t.Errorf("%s, not %s", is, was)
	}
}

// TestP13_4Answered writes to all that is answered: no other answer changes, neither one that was given already nor a later one.
func TestP13_4Answered(t *testing.T) {
	m := some(t)
	was := state(m)
	sums, _ := m.Totals("a", 0, end)
	list, names := m.Events("a", 0, end), m.Accounts()
	one, _ := m.Find("y")
	sumsWere, listWas := slices.Clone(sums), slices.Clone(list)
	for range 2 {
		l, _ := m.Totals("a", 0, end)
		spoilAll(l, textsOfTotal)
		spoilAll(m.Events("a", 0, end), textsOfEvent)
		spoilAll(m.Accounts(), textsOfName)
		found, _ := m.Find("y")
		spoil(textsOfEvent(found)...)
		if is := state(m); is != was {
			t.Errorf("%s, not %s", is, was)
		}
	}
	if !slices.Equal(sums, sumsWere) || sums[1].Meter != "gb" || !slices.Equal(list, listWas) || list[0].Key != "v" || !slices.Equal(names, []string{"a", "b"}) || one != of("a", "gb", "y", 2, 5) {
		t.Errorf("%v, %v, %q, %+v", sums, list, names, one)
	}
	// What an answer tells is what was when it was given.
	ingest(t, m, of("a", "gb", "u", 32, 0), of("c", "gb", "t", 32, 0))
	if !slices.Equal(sums, sumsWere) || !slices.Equal(list, listWas) || !slices.Equal(names, []string{"a", "b"}) {
		t.Errorf("%v, %v, %q", sums, list, names)
	}
}

// TestP13_4Apart appends to lists that were answered: what else was answered, and is later, stays.
func TestP13_4Apart(t *testing.T) {
	m := some(t)
	was := state(m)
	for range 3 {
		l, _ := m.Totals("a", 0, end)
		_ = append(l, meter.Total{Meter: "spoilt"})
		_ = append(m.Events("a", 0, end)[:1], meter.Event{Key: "spoilt"})
		_ = append(m.Accounts()[:1], "spoilt")
		if is := state(m); is != was {
			t.Errorf("%s, not %s", is, was)
		}
	}
}
