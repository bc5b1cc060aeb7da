package meter_test

import (
	"math/rand/v2"
	"slices"
	"strconv"
	"sync"
	"sync/atomic"
	"testing"

	"exchequer/api"
	"exchequer/meter"
)

// inSeveral runs something in so many goroutines at once, to each of which its number is told.
func inSeveral(n int, run func(i int)) {
	var all sync.WaitGroup
	begin := make(chan struct{})
	for i := range n {
		all.Go(func() {
			<-begin
			run(i)
		})
	}
	close(begin)
	all.Wait()
}

// sum is that of numbers.
func sum(l []int) (n int) {
	for _, x := range l {
		n += x
	}
	return n
}

// order is an order of rows of calls, which keeps that of each row, in which a model answers as they were answered; or none.
func (m *model) order(rows [][]call, answers [][]string) bool {
	done := true
	for i, row := range rows {
		if len(row) == 0 {
			continue
		}
		done = false
		next := m.copied()
		if s, _ := row[0].on(next); s != answers[i][0] {
			continue
		}
		rest, left := slices.Clone(rows), slices.Clone(answers)
		rest[i], left[i] = row[1:], answers[i][1:]
		if next.order(rest, left) {
			return true
		}
	}
	return done
}

// TestP13_4Alone makes rows of any calls in several goroutines at once: there is an order of all these calls in which each of them is as if it were alone.
func TestP13_4Alone(t *testing.T) {
	r := rand.New(rand.NewPCG(13, 4))
	for range 1500 {
		x, m := meter.New(), &model{}
		keys := 1 + r.IntN(4)
		rows, answers := make([][]call, 3), make([][]string, 3)
		for i := range rows {
			for range 3 {
				rows[i] = append(rows[i], anyCall(r, keys))
			}
			answers[i] = make([]string, 3)
		}
		inSeveral(3, func(i int) {
			for at, c := range rows[i] {
				answers[i][at], _ = c.on(x)
			}
		})
		if !m.order(rows, answers) {
			t.Fatalf("%+v: %q", rows, answers)
		}
	}
}

// TestP13_4Once sends the same events in several goroutines at once: each is new to one of them, and known to all others.
func TestP13_4Once(t *testing.T) {
	for range 20 {
		const n = 200
		m := meter.New()
		isNew, isKnown := make([][n]int, 8), make([]int, 8)
		inSeveral(8, func(i int) {
			for k := range n {
				k = (k + i) % n
				switch known, bad := m.Ingest(event("k"+strconv.Itoa(k), 3, k)); {
				case bad != api.OK:
					t.Errorf("%d: %d", k, bad)
				case known:
					isKnown[i]++
				default:
					isNew[i][k]++
				}
			}
		})
		for k := range n {
			taken := 0
			for i := range isNew {
				taken += isNew[i][k]
			}
			if taken != 1 {
				t.Errorf("%d: new to %d", k, taken)
			}
		}
		counts(t, m, n, 7*n)
		if sum(isKnown) != 7*n {
			t.Errorf("known to %v", isKnown)
		}
		totals(t, m, "acme", 0, end, meter.Total{Meter: "calls", Qty: 3 * n, Count: n})
	}
}

// TestP13_4Conflict sends unlike events of the same keys in several goroutines at once: of each key one of them wins.
func TestP13_4Conflict(t *testing.T) {
	for range 20 {
		const n = 200
		m := meter.New()
		won := make([][n]bool, 8)
		inSeveral(8, func(i int) {
			for k := range n {
				known, bad := m.Ingest(event("k"+strconv.Itoa(k), i, k))
				won[i][k] = bad == api.OK
				if known || bad != api.OK && bad != api.ErrConflict {
					t.Errorf("%d: %v, %d", k, known, bad)
				}
			}
		})
		for k := range n {
			for i := range won {
				if e, is := m.Find("k" + strconv.Itoa(k)); !is || won[i][k] != (e.Qty == i) {
					t.Errorf("%d, %d: %v, %+v", k, i, won[i][k], e)
				}
			}
		}
		counts(t, m, n, 0)
	}
}

// TestP13_4Room sends more events than there may be in several goroutines at once: there is not one too many.
func TestP13_4Room(t *testing.T) {
	for range 3 {
		m := meter.New()
		for k := range api.MaxEvents - 20 {
			ingest(t, m, event("k"+strconv.Itoa(k), 1, k))
		}
		taken, many := make([]int, 8), make([]int, 8)
		inSeveral(8, func(i int) {
			for n := range 10 {
				switch known, bad := m.Ingest(event("new"+strconv.Itoa(10*i+n), 1, n)); {
				case bad == api.OK && !known:
					taken[i]++
				case bad == api.ErrMany && !known:
					many[i]++
				}
			}
		})
		if sum(taken) != 20 || sum(many) != 60 {
			t.Errorf("%v, %v", taken, many)
		}
		counts(t, m, api.MaxEvents, 0)
	}
}

// TestP13_4Readers reads while one sends events one behind the other: nobody sees a later one without those ahead of it, and what a call tells is of one time.
func TestP13_4Readers(t *testing.T) {
	const n = 400
	m := meter.New()
	row := make([]meter.Event, n)
	for i := range row {
		row[i] = of("a", meters[i%2], "k"+strconv.Itoa(n-i), 1, i)
	}
	var ended atomic.Bool
	inSeveral(6, func(i int) {
		if i == 0 {
			for _, e := range row {
				m.Ingest(e)
				m.Ingest(e)
			}
			ended.Store(true)
			return
		}
		seen := 0
		for isLast := false; !isLast; {
			isLast = ended.Load()
			repeats, count := m.Repeats(), m.Len()
			l := m.Events("a", 0, end)
			if len(l) < max(seen, count) || len(l) > n || !slices.Equal(l, row[:len(l)]) {
				t.Errorf("%d events behind %d and %d", len(l), seen, count)
				return
			}
			// The known one comes again before the next one.
			if repeats > count || repeats < seen-1 || m.Repeats() < len(l)-1 {
				t.Errorf("%d repeats of %d, behind %d", repeats, count, seen)
				return
			}
			seen = len(l)
			sums, e := m.Totals("a", 0, end)
			all := 0
			for _, total := range sums {
				all += total.Count
			}
			if e != api.OK || all < seen || all > n || all > 0 && sums[0].Qty != (all+1)/2 || all > 1 && sums[1].Qty != all/2 {
				t.Errorf("%v, %d behind %d", sums, e, seen)
				return
			}
			if seen > 0 && (len(m.Accounts()) != 1 || m.Accounts()[0] != "a") {
				t.Errorf("%q", m.Accounts())
				return
			}
			for k, x := range row[:seen] {
				if found, is := m.Find(x.Key); k%50 == 0 && (!is || found != x) {
					t.Errorf("%+v, %v", found, is)
					return
				}
			}
		}
	})
	counts(t, m, n, n)
}
