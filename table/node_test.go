package table

import (
	"math/rand/v2"
	"testing"
)

// sound tells that the keys below a node rise between two bounds, that its sizes are right and its sides balanced.
func sound(t *testing.T, n *node[int, int], above, below int) int {
	t.Helper()
	if n == nil {
		return 0
	}
	if n.key <= above || n.key >= below {
		t.Fatalf("key %d, not between %d and %d", n.key, above, below)
	}
	left, right := sound(t, n.left, above, n.key), sound(t, n.right, n.key, below)
	if n.size != left+right+1 {
		t.Fatalf("size %d of %d and %d", n.size, left, right)
	}
	if left+1 > heavy*(right+1) || right+1 > heavy*(left+1) {
		t.Fatalf("sides of %d and %d", left, right)
	}
	return n.size
}

// whole is sound of a table.
func whole(t *testing.T, x *Table[int, int]) {
	t.Helper()
	sound(t, x.root, -1<<62, 1<<62)
}

// TestP3_1Balanced keeps the ways to the keys short, in whatever order they come and go.
func TestP3_1Balanced(t *testing.T) {
	const n = 120
	orders := map[string]func(i int) int{
		"rising":   func(i int) int { return i },
		"falling":  func(i int) int { return -i },
		"inward":   func(i int) int { return (i%2*2 - 1) * (n - i) },
		"outward":  func(i int) int { return (i%2*2 - 1) * i },
		"jumping":  func(i int) int { return i * 7919 % 10007 },
		"in steps": func(i int) int { return i%10*n + i/10 },
	}
	for put, putAt := range orders {
		for taken, takenAt := range orders {
			x := New[int, int]()
			for i := range n {
				x.Put(putAt(i), i)
				whole(t, x)
			}
			// Keys of another order are not there, or are there: each of either is a way of its own.
			for i := range n {
				x.Delete(takenAt(i))
				whole(t, x)
			}
			for i := range n {
				x.Delete(putAt(n - 1 - i))
				whole(t, x)
			}
			if x.root != nil || x.Len() != 0 {
				t.Errorf("%s, %s: %d are left", put, taken, x.Len())
			}
		}
	}
}

func TestP3_1BalancedByChance(t *testing.T) {
	r := rand.New(rand.NewPCG(3, 1))
	for _, keys := range []int{4, 20, 100, 500} {
		x := New[int, int]()
		for range 4 * keys {
			if r.IntN(2) == 0 {
				x.Put(r.IntN(keys), 0)
			} else {
				x.Delete(r.IntN(keys))
			}
			whole(t, x)
		}
	}
}

// TestP3_3Shared tells that a write makes anew only the nodes on its way: a snapshot costs no copy of the table.
func TestP3_3Shared(t *testing.T) {
	const n, most = 1 << 12, 80
	x := New[int, int]()
	for i := range n {
		x.Put(i, i)
	}
	writes := map[string]func(){
		"nothing":     func() {},
		"Put":         func() { x.Put(n/3, -1) },
		"Put of new":  func() { x.Put(n, -1) },
		"Delete":      func() { x.Delete(n / 2) },
		"Delete none": func() { x.Delete(-5) },
	}
	for what, write := range writes {
		was := map[*node[int, int]]int{}
		s := x.Snapshot()
		each(s.root, func(one *node[int, int]) { was[one] = 1 })
		write()
		fresh := 0
		each(x.root, func(one *node[int, int]) { fresh += 1 - was[one] })
		if fresh > most {
			t.Errorf("%s: %d new nodes", what, fresh)
		}
	}
}

// each hands on all nodes.
func each(n *node[int, int], do func(*node[int, int])) {
	if n != nil {
		each(n.left, do)
		do(n)
		each(n.right, do)
	}
}
