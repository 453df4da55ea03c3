package persist

import "cmp"

// Tree is a persistent map from keys to values: no operation changes a tree. The zero Tree is empty.
type Tree[K cmp.Ordered, V any] struct{ root *node[K, V] }

// pivot is a key that the keys of a tree are compared with.
type pivot[K cmp.Ordered] struct{ key K }

// compare compares the pivot with a key.
func (p pivot[K]) compare(key K) int { return cmp.Compare(p.key, key) }

// Put returns a tree in which a key has a value.
func (t Tree[K, V]) Put(k K, v V) Tree[K, V] {
	less, greater := split(t.root, pivot[K]{k}.compare)
	return Tree[K, V]{join(less, &node[K, V]{key: k, value: v}, greater)}
}

// Delete returns a tree without a key.
func (t Tree[K, V]) Delete(k K) Tree[K, V] {
	less, greater := split(t.root, pivot[K]{k}.compare)
	return Tree[K, V]{concat(less, greater)}
}

// Get returns the value of a key.
func (t Tree[K, V]) Get(k K) (v V, ok bool) {
	if n := find(t.root, pivot[K]{k}.compare); n != nil {
		return n.value, true
	}
	return v, false
}

// Size returns the number of keys.
func (t Tree[K, V]) Size() int { return t.root.count() }

// Depth returns the number of nodes on the longest path from the root.
func (t Tree[K, V]) Depth() int { return t.root.height() }

// At returns the key with an index, and its value.
func (t Tree[K, V]) At(i int) (k K, v V, ok bool) {
	for n := t.root; n != nil; {
		ahead := n.left.count()
		switch {
		case i == ahead:
			return n.key, n.value, true
		case i < ahead:
			n = n.left
		default:
			i -= ahead + 1
			n = n.right
		}
	}
	return k, v, false
}

// Rank returns the number of keys that are less than a key.
func (t Tree[K, V]) Rank(k K) int {
	compare := pivot[K]{k}.compare
	rank := 0
	for n := t.root; n != nil; {
		if compare(n.key) > 0 {
			rank += n.left.count() + 1
			n = n.right
		} else {
			n = n.left
		}
	}
	return rank
}

// Split returns the part with the keys that are less than a key, and the part with those that are greater.
func (t Tree[K, V]) Split(k K) (less, greater Tree[K, V]) {
	l, g := split(t.root, pivot[K]{k}.compare)
	return Tree[K, V]{l}, Tree[K, V]{g}
}

// Join returns the tree with the keys of two trees; false, if they are not apart.
func (t Tree[K, V]) Join(u Tree[K, V]) (Tree[K, V], bool) {
	last, _, some := t.At(t.Size() - 1)
	first, _, others := u.At(0)
	if some && others && cmp.Compare(last, first) >= 0 {
		return Tree[K, V]{}, false
	}
	return Tree[K, V]{concat(t.root, u.root)}, true
}

// All calls a function with the keys and their values, ascending, until it returns false.
func (t Tree[K, V]) All() func(yield func(K, V) bool) {
	return func(yield func(K, V) bool) {
		for n := range nodes(t.root) {
			if !yield(n.key, n.value) {
				return
			}
		}
	}
}
