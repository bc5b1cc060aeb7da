package table

import "cmp"

// With these two numbers one turn, single or double, at each node on the way to a key is enough to keep the sides balanced.
const (
	heavy = 3 // no side weighs more than so many times the other one
	inner = 2 // a side's inner part that weighs so many times the outer one, or more, is split by a double turn
)

// node is a pair and those below and above it by key. It is never changed once it is made: a write makes anew the nodes on the way to its key, and shares all others with what was there.
type node[K cmp.Ordered, V any] struct {
	key         K
	value       V
	size        int // how many pairs hang on it, its own too
	left, right *node[K, V]
}

// count is how many pairs hang on a node.
func (n *node[K, V]) count() int {
	if n == nil {
		return 0
	}
	return n.size
}

// weight is what a side counts when it is balanced: one more than its pairs, so that an empty one counts, too.
func (n *node[K, V]) weight() int { return n.count() + 1 }

// get is a key's value.
func (n *node[K, V]) get(k K) (v V, ok bool) {
	for n != nil {
		switch c := cmp.Compare(k, n.key); {
		case c < 0:
			n = n.left
		case c > 0:
			n = n.right
		default:
			return n.value, true
		}
	}
	return v, false
}

// put is n with a key's value.
func (n *node[K, V]) put(k K, v V) *node[K, V] {
	if n == nil {
		return made(k, v, nil, nil)
	}
	switch c := cmp.Compare(k, n.key); {
	case c < 0:
		return n.over(n.left.put(k, v), n.right)
	case c > 0:
		return n.over(n.left, n.right.put(k, v))
	}
	return made(k, v, n.left, n.right)
}

// without is n without a key.
func (n *node[K, V]) without(k K) *node[K, V] {
	if n == nil {
		return nil
	}
	switch c := cmp.Compare(k, n.key); {
	case c < 0:
		return n.over(n.left.without(k), n.right)
	case c > 0:
		return n.over(n.left, n.right.without(k))
	}
	return joined(n.left, n.right)
}

// joined is two sides whose middle is gone: the greater one gives its nearest pair.
func joined[K cmp.Ordered, V any](left, right *node[K, V]) *node[K, V] {
	if left == nil {
		return right
	}
	if right == nil {
		return left
	}
	if left.size > right.size {
		last := left.last()
		return last.over(left.without(last.key), right)
	}
	first := right.first()
	return first.over(left, right.without(first.key))
}

// first is the node of the least key.
func (n *node[K, V]) first() *node[K, V] {
	for n.left != nil {
		n = n.left
	}
	return n
}

// last is the node of the greatest key.
func (n *node[K, V]) last() *node[K, V] {
	for n.right != nil {
		n = n.right
	}
	return n
}

// made is a new node.
func made[K cmp.Ordered, V any](k K, v V, left, right *node[K, V]) *node[K, V] {
	return &node[K, V]{key: k, value: v, size: left.count() + right.count() + 1, left: left, right: right}
}

// with is n's pair with these sides.
func (n *node[K, V]) with(left, right *node[K, V]) *node[K, V] {
	return made(n.key, n.value, left, right)
}

// over is n's pair with these sides, turned where one of them is too heavy.
func (n *node[K, V]) over(left, right *node[K, V]) *node[K, V] {
	switch {
	case right.weight() > heavy*left.weight():
		return n.turnLeft(left, right)
	case left.weight() > heavy*right.weight():
		return n.turnRight(left, right)
	}
	return n.with(left, right)
}

// turnLeft is n's pair with these sides, of which the right one is too heavy.
func (n *node[K, V]) turnLeft(left, right *node[K, V]) *node[K, V] {
	middle := right.left
	if middle.weight() < inner*right.right.weight() {
		return right.with(n.with(left, middle), right.right)
	}
	return middle.with(n.with(left, middle.left), right.with(middle.right, right.right))
}

// turnRight is n's pair with these sides, of which the left one is too heavy.
func (n *node[K, V]) turnRight(left, right *node[K, V]) *node[K, V] {
	middle := left.right
	if middle.weight() < inner*left.left.weight() {
		return left.with(left.left, n.with(middle, right))
	}
	return middle.with(left.with(left.left, middle.left), n.with(middle.right, right))
}

// all hands on the pairs, by rising keys, until it is told to leave; it is false if it was.
func (n *node[K, V]) all(yield func(K, V) bool) bool {
	return n == nil || n.left.all(yield) && yield(n.key, n.value) && n.right.all(yield)
}

// between is as all, of the keys not less than from and less than to.
func (n *node[K, V]) between(from, to K, yield func(K, V) bool) bool {
	if n == nil {
		return true
	}
	inFrom, inTo := !cmp.Less(n.key, from), cmp.Less(n.key, to)
	// The keys on the left are less still than one below from, those on the right greater than one not below to.
	if inFrom && !n.left.between(from, to, yield) {
		return false
	}
	if inFrom && inTo && !yield(n.key, n.value) {
		return false
	}
	return !inTo || n.right.between(from, to, yield)
}
