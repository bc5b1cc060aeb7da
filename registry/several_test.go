package registry_test

import (
	"fmt"
	"math/rand/v2"
	"strconv"
	"strings"
	"sync"
	"testing"

	"exchequer/api"
	"exchequer/registry"
	"exchequer/vm"
)

// inSeveral runs something in so many goroutines at once, to each of which its number is told.
func inSeveral(n int, run func(i int)) {
	var all sync.WaitGroup
	begin := make(chan struct{})
	for i := range n {
		all.Go(func() {
			<-begin
			run(i)
		})
	}
	close(begin)
	all.Wait()
}

// order is an order of rows of calls, which keeps that of each row, in which a model answers as they were answered; or none.
func (m *model) order(rows [][]call, answers [][]string) bool {
	done := true
	for i, row := range rows {
		if len(row) == 0 {
			continue
		}
		done = false
		next := m.copied()
		if s, _ := row[0].on(next); s != answers[i][0] {
			continue
		}
		rest, left := append([][]call{}, rows...), append([][]string{}, answers...)
		rest[i], left[i] = row[1:], answers[i][1:]
		if next.order(rest, left) {
			return true
		}
	}
	return done
}

// TestP12_6Alone makes rows of any calls in several goroutines at once: there is an order of all these calls in which each of them is as if it were alone.
func TestP12_6Alone(t *testing.T) {
	r := rand.New(rand.NewPCG(12, 6))
	for range 1500 {
		x, m := registry.New(), modelled()
		sets := pick(r, []string{"a"}, []string{"a", "b"})
		for i := range r.IntN(4) {
			c := call{'P', sets[0], 2 * i, priced(i)}
			c.on(x)
			c.on(m)
		}
		rows, answers := make([][]call, 3), make([][]string, 3)
		for i := range rows {
			for range 3 {
				rows[i] = append(rows[i], anyCall(r, sets, 4+r.IntN(12)))
			}
			answers[i] = make([]string, 3)
		}
		inSeveral(3, func(i int) {
			for at, c := range rows[i] {
				answers[i][at], _ = c.on(x)
			}
		})
		if !m.order(rows, answers) {
			t.Fatalf("%+v: %q", rows, answers)
		}
	}
}

// TestP12_6Once asks for programs in several goroutines at once: each is made once, and is the same one for all.
func TestP12_6Once(t *testing.T) {
	for round := range 50 {
		r := registry.New()
		for i := range 6 {
			publishes(t, r, "a", i, priced(i))
		}
		got := make([][6]*vm.Program, 8)
		inSeveral(8, func(i int) {
			for n := range 6 {
				at := (n + i) % 6
				got[i][at], _ = r.Program("a", at+1)
				if n := r.Compiled(); n < 1 || n > 6 {
					t.Errorf("%d compiled", n)
				}
			}
		})
		counts(t, r, 6)
		for i, l := range got {
			if l != got[0] {
				t.Errorf("%d, %d: %v, not %v", round, i, l, got[0])
			}
		}
		for i, p := range got[0] {
			if p == nil || concludes(p) != concludes(compiled(t, priced(i))) {
				t.Errorf("%d: %v", i, p)
			}
		}
	}
}

// TestP12_6Publish publishes in several goroutines at once for the same instants: of each instant one of them wins, and numbers have no gap.
func TestP12_6Publish(t *testing.T) {
	for range 30 {
		r := registry.New()
		won := make([][]registry.Version, 8)
		inSeveral(8, func(i int) {
			for at := range 12 {
				v, line, e := r.Publish("a", at, priced(i))
				switch {
				case e == api.OK:
					won[i] = append(won[i], v)
				case e != api.ErrStale || line != 0 || v != registry.Version{}:
					t.Errorf("%v, %d, %d", v, line, e)
				}
			}
		})
		l := r.Versions("a")
		if len(l) == 0 || l[len(l)-1].From != 11 {
			t.Fatalf("%s", told(l))
		}
		all := map[registry.Version]int{}
		for _, row := range won {
			for _, v := range row {
				all[v]++
			}
		}
		for i, v := range l {
			if v.Number != i+1 || i > 0 && l[i-1].Until != v.From {
				t.Errorf("%s", told(l))
			}
			v.Until = 0
			if all[v] != 1 {
				t.Errorf("%d of %v", all[v], v)
			}
		}
		if len(all) != len(l) {
			t.Errorf("%d, not %d", len(all), len(l))
		}
	}
}

// TestP12_6Limits publishes in several goroutines at once more sets, and more versions, than there may be.
func TestP12_6Limits(t *testing.T) {
	r := registry.New()
	taken, many := make([]int, 8), make([]int, 8)
	inSeveral(8, func(i int) {
		for n := range 5 {
			switch _, _, e := r.Publish("s"+strconv.Itoa(i)+"-"+strconv.Itoa(n), 0, source); e {
			case api.OK:
				taken[i]++
			case api.ErrMany:
				many[i]++
			}
		}
	})
	sum := func(l []int) (n int) {
		for _, x := range l {
			n += x
		}
		return n
	}
	if sum(taken) != 20 || sum(many) != 20 || len(r.Sets()) != 20 {
		t.Errorf("%v, %v, %q", taken, many, r.Sets())
	}
	set := r.Sets()[0]
	inSeveral(8, func(i int) {
		for n := range 200 {
			if _, _, e := r.Publish(set, 1+8*n+i, source); e == api.ErrMany {
				many[i]++
			}
		}
	})
	if len(r.Versions(set)) != 100 || sum(many) <= 20 {
		t.Errorf("%d, %v", len(r.Versions(set)), many)
	}
}

// TestP12_6Readers reads while one publishes and retires: nobody sees half of a call.
func TestP12_6Readers(t *testing.T) {
	r := registry.New()
	publishes(t, r, "a", 0, priced(0))
	inSeveral(6, func(i int) {
		if i == 0 {
			for n := 1; n < 100; n++ {
				if n%10 == 0 {
					r.Retire("a", 10*n-5)
				}
				r.Publish("a", 10*n, priced(n))
			}
			return
		}
		seen := 0
		for range 200 {
			l := r.Versions("a")
			if len(l) < max(1, seen) || !whole(l) {
				t.Errorf("%d: %s", seen, told(l))
				return
			}
			seen = len(l)
			last := l[seen-1]
			v, e := r.Lookup("a", last.From)
			if last.Until, v.Until = 0, 0; v != last || e != api.OK {
				t.Errorf("%v, %d, not %v", v, e, last)
			}
			if p, e := r.Program("a", seen); e != api.OK || !strings.Contains(concludes(p), fmt.Sprint(vm.Int("p", seen-1))) {
				t.Errorf("%d: %v, %d", seen, p, e)
			}
			if s := r.Sets(); len(s) != 1 || s[0] != "a" || r.Compiled() > 100 {
				t.Errorf("%q, %d", s, r.Compiled())
			}
		}
	})
	if l := r.Versions("a"); len(l) != 100 || !whole(l) {
		t.Errorf("%s", told(l))
	}
}

// whole: are these all versions of some state of TestP12_6Readers?
func whole(l []registry.Version) bool {
	for i, v := range l {
		isLast, isRetired := i == len(l)-1, i%10 == 9
		until := 10 * (i + 1)
		if isRetired {
			until -= 5
		}
		// The last one has no end, until it is retired.
		if isLast && (!isRetired || v.Until == 0) {
			until = 0
		}
		if v != (registry.Version{Set: "a", Number: i + 1, From: 10 * i, Until: until, Source: priced(i)}) {
			return false
		}
	}
	return true
}
