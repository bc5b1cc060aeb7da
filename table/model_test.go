package table_test

import (
	"iter"
	"maps"
	"math/rand/v2"
	"slices"
	"strconv"
	"sync"
	"testing"

	"exchequer/table"
)

// model says anew, in the plainest way, what a table answers.
type model struct {
	pairs   map[int]int
	version int
}

// between is its pairs from one key to below another, as one text.
func (m *model) between(from, to int) string {
	s := ""
	for _, k := range slices.Sorted(maps.Keys(m.pairs)) {
		if k >= from && k < to {
			s += strconv.Itoa(k) + " " + strconv.Itoa(m.pairs[k]) + ", "
		}
	}
	return s
}

// reader is what a table and a snapshot have in common.
type reader interface {
	Get(int) (int, bool)
	Len() int
	Version() int
	All() iter.Seq2[int, int]
	Range(int, int) iter.Seq2[int, int]
}

// line is the pairs of a sequence as between tells them.
func line(l iter.Seq2[int, int]) string {
	s := ""
	for k, v := range l {
		s += strconv.Itoa(k) + " " + strconv.Itoa(v) + ", "
	}
	return s
}

// held holds a table or a snapshot against a model.
func held(t *testing.T, x reader, m *model, keys int) {
	t.Helper()
	if x.Len() != len(m.pairs) || x.Version() != m.version {
		t.Fatalf("Len %d, not %d; Version %d, not %d", x.Len(), len(m.pairs), x.Version(), m.version)
	}
	for k := -1; k <= keys; k++ {
		v, is := x.Get(k)
		w, was := m.pairs[k]
		if v != w || is != was {
			t.Fatalf("Get(%d): %d, %v, not %d, %v", k, v, is, w, was)
		}
	}
	if got := line(x.All()); got != m.between(-1, keys) {
		t.Fatalf("All: %s, not %s", got, m.between(-1, keys))
	}
	for _, from := range []int{0, keys / 3, keys} {
		for _, to := range []int{0, keys / 3, keys / 2, keys} {
			if got := line(x.Range(from, to)); got != m.between(from, to) {
				t.Fatalf("Range(%d, %d): %s, not %s", from, to, got, m.between(from, to))
			}
		}
	}
}

// TestP3_3Rows does rows of writes, whose chances are fixed ahead, and holds the table and its snapshots against models.
func TestP3_3Rows(t *testing.T) {
	for seed := range uint64(60) {
		r := rand.New(rand.NewPCG(seed, 33))
		keys := 1 + r.IntN(40)
		x, m := table.New[int, int](), &model{pairs: map[int]int{}}
		var snapshots []*table.Snapshot[int, int]
		var models []*model
		for i := range 150 {
			k := r.IntN(keys)
			m.version++
			if r.IntN(5) < 3 {
				x.Put(k, i)
				m.pairs[k] = i
			} else {
				_, was := m.pairs[k]
				deleted[int, int](t, x, k, was)
				delete(m.pairs, k)
			}
			held(t, x, m, keys)
			if r.IntN(10) == 0 {
				snapshots = append(snapshots, x.Snapshot())
				models = append(models, &model{pairs: maps.Clone(m.pairs), version: m.version})
			}
		}
		for i, s := range snapshots {
			held(t, s, models[i], keys)
		}
	}
}

// TestP3_4OneWriter puts rising keys: whatever a reader finds is the front that a number of whole writes makes.
func TestP3_4OneWriter(t *testing.T) {
	const n = 3000
	x := table.New[int, int]()
	var wg sync.WaitGroup
	for range 4 {
		wg.Go(func() {
			for last := 0; last < n; {
				version := x.Version()
				s := x.Snapshot()
				if s.Version() < version || s.Version() < last || s.Len() != s.Version() {
					t.Errorf("Version %d, Len %d, behind %d and %d", s.Version(), s.Len(), version, last)
					return
				}
				last = s.Version()
				if v, is := x.Get(last - 1); last > 0 && (v != last-1 || !is) {
					t.Errorf("Get(%d): %d, %v", last-1, v, is)
					return
				}
				if !fronts(s.All(), s.Len(), s.Len()) || !fronts(x.All(), last, n) {
					t.Errorf("All of %d: not a front", last)
					return
				}
			}
		})
	}
	for i := range n {
		x.Put(i, i)
	}
	wg.Wait()
	number(t, "Len", x.Len(), n)
}

// TestP3_4AtOneTime takes snapshots as fast as may be: the pairs and the version of each are of one time.
func TestP3_4AtOneTime(t *testing.T) {
	const n, keys = 200000, 8
	x := table.New[int, int]()
	var wg sync.WaitGroup
	for range 4 {
		wg.Go(func() {
			for version := 0; version < n; {
				s := x.Snapshot()
				version = s.Version()
				// The i-th write, from 1 on, puts i to the key that is its remainder.
				if v, _ := s.Get(version % keys); v != version {
					t.Errorf("Version %d: %d", version, v)
					return
				}
				if v, _ := s.Get((version + 1) % keys); v > version {
					t.Errorf("Version %d: %d already", version, v)
					return
				}
			}
		})
	}
	for i := range n {
		x.Put((i+1)%keys, i+1)
	}
	wg.Wait()
}

// fronts tells whether a sequence is the keys 0, 1, 2 .., at least so many and at most so many.
func fronts(l iter.Seq2[int, int], least, most int) bool {
	count := 0
	for k, v := range l {
		if k != count || v != k {
			return false
		}
		count++
	}
	return count >= least && count <= most
}

// TestP3_4Writers lets several write at once: no write is lost, each Delete has one that is answered.
func TestP3_4Writers(t *testing.T) {
	const workers, keys = 8, 200
	x := table.New[int, int]()
	var wg sync.WaitGroup
	for i := range workers {
		wg.Go(func() {
			for k := range keys {
				x.Put(k*workers+i, i)
				x.Put(-1, i)
			}
		})
	}
	wg.Wait()
	number(t, "Len", x.Len(), workers*keys+1)
	number(t, "Version", x.Version(), 2*workers*keys)
	had := make([]int, workers)
	for i := range workers {
		wg.Go(func() {
			for k := range workers * keys {
				if x.Delete(k) {
					had[i]++
				}
			}
		})
	}
	wg.Wait()
	sum := 0
	for _, n := range had {
		sum += n
	}
	number(t, "Deletes of what was there", sum, workers*keys)
	number(t, "Len", x.Len(), 1)
	number(t, "Version", x.Version(), 2*workers*keys+workers*workers*keys)
}

// TestP3_4ReadersMeanwhile goes over sequences while others write: each is of the table at one time.
func TestP3_4ReadersMeanwhile(t *testing.T) {
	const n = 3000
	x := table.New[int, int]()
	x.Put(0, 0)
	var wg sync.WaitGroup
	for range 4 {
		wg.Go(func() {
			for last := 0; last < n; {
				// A key is put ahead of the one below it going: there is one, or there are two that follow each other.
				var got []int
				for k := range x.All() {
					got = append(got, k)
				}
				if len(got) < 1 || len(got) > 2 || got[len(got)-1] != got[0]+len(got)-1 || got[0] < last {
					t.Errorf("%v behind %d", got, last)
					return
				}
				last = got[0]
			}
		})
	}
	wg.Go(func() {
		for i := range n {
			x.Put(i+1, 0)
			if !x.Delete(i) {
				t.Errorf("Delete(%d)", i)
			}
		}
	})
	wg.Wait()
	number(t, "Len", x.Len(), 1)
}
