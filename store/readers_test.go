package store_test

import (
	"iter"
	"strconv"
	"sync"
	"sync/atomic"
	"testing"

	"exchequer/api"
	"exchequer/store"
)

// alike tells whether all pairs have one value, and there is the number of them that is asked for.
func alike(l iter.Seq2[string, string], count int) bool {
	value := ""
	for _, v := range l {
		if value != "" && v != value {
			return false
		}
		value = v
		count--
	}
	return count == 0
}

// watch reads until the writer has ended; it is empty where it never saw half a batch.
func watch(s *store.Store, count int, ended *atomic.Bool) string {
	least := 0
	for !ended.Load() {
		snap := s.Snapshot()
		first, _ := s.Get("k100000")
		last, _ := s.Get("k" + strconv.Itoa(100000+count-1))
		seq := s.Seq()
		a, _ := strconv.Atoi(first)
		b, _ := strconv.Atoi(last)
		switch {
		case !alike(snap.All(), count) || !alike(snap.Range("k", "l"), count):
			return "a snapshot with half a batch"
		case !alike(s.All(), count):
			return "All tells half a batch"
		case !alike(s.Range("k1", "k9"), count):
			return "Range tells half a batch"
		case s.Len() != count:
			return "Len tells half a batch"
		case a < least || b < a || seq < b:
			return "Get or Seq tells what was: " + strconv.Itoa(least) + ", " + first + ", " + last + ", " + strconv.Itoa(seq)
		}
		least = seq
	}
	return ""
}

// TestP4_3Readers reads from several goroutines while one writes: each batch writes all keys anew.
func TestP4_3Readers(t *testing.T) {
	const count = 40
	s := opened(t, roomy())
	write(t, s, several(count, "1")...)
	var ended atomic.Bool
	var all sync.WaitGroup
	faults := make([]string, 4)
	for i := range faults {
		all.Go(func() { faults[i] = watch(s, count, &ended) })
	}
	for i := 2; i < 1500; i++ {
		if e := s.Write(several(count, strconv.Itoa(i))); e != api.OK {
			t.Errorf("Write: %d", e)
		}
		if i%50 == 0 {
			kept(t, s)
		}
	}
	ended.Store(true)
	all.Wait()
	for _, fault := range faults {
		if fault != "" {
			t.Errorf("P4.2, P4.3: %s", fault)
		}
	}
	number(t, "Seq", s.Seq(), 1499)
}
