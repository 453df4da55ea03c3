package persist

import (
	"cmp"
	"iter"
)

// node is the root of a tree that is not empty. The heights of its two sides differ by at most 1, and a node never changes once it stands in a tree, so that trees may share it.
type node[K cmp.Ordered, V any] struct {
	key         K
	value       V
	left, right *node[K, V]
	size, depth int
}

func (n *node[K, V]) count() int {
	if n == nil {
		return 0
	}
	return n.size
}

func (n *node[K, V]) height() int {
	if n == nil {
		return 0
	}
	return n.depth
}

// above returns a tree with the key and the value of a node between two trees whose heights differ by at most 1.
func above[K cmp.Ordered, V any](left, n, right *node[K, V]) *node[K, V] {
	return &node[K, V]{
		key:   n.key,
		value: n.value,
		left:  left,
		right: right,
		size:  left.count() + 1 + right.count(),
		depth: max(left.height(), right.height()) + 1,
	}
}

// balance is above for heights that differ by at most 2.
func balance[K cmp.Ordered, V any](left, n, right *node[K, V]) *node[K, V] {
	switch left.height() - right.height() {
	case 2:
		inner := left.right
		if left.left.height() >= inner.height() {
			return above(left.left, left, above(inner, n, right))
		}
		return above(above(left.left, left, inner.left), inner, above(inner.right, n, right))
	case -2:
		inner := right.left
		if right.right.height() >= inner.height() {
			return above(above(left, n, inner), right, right.right)
		}
		return above(above(left, n, inner.left), inner, above(inner.right, right, right.right))
	}
	return above(left, n, right)
}

// join is above for any heights. What it returns is at most one higher than the higher one of both trees, so that balance suffices on the way up.
func join[K cmp.Ordered, V any](left, n, right *node[K, V]) *node[K, V] {
	switch d := left.height() - right.height(); {
	case d > 1:
		return balance(left.left, left, join(left.right, n, right))
	case d < -1:
		return balance(join(left, n, right.left), right, right.right)
	}
	return above(left, n, right)
}

// concat returns a tree with all keys of two trees, those of the first one ahead.
func concat[K cmp.Ordered, V any](left, right *node[K, V]) *node[K, V] {
	if right == nil {
		return left
	}
	first, rest := pop(right)
	return join(left, first, rest)
}

// pop returns the first node of a tree that is not empty, and the tree without it.
func pop[K cmp.Ordered, V any](n *node[K, V]) (first, rest *node[K, V]) {
	if n.left == nil {
		return n, n.right
	}
	first, rest = pop(n.left)
	return first, balance(rest, n, n.right)
}

// split returns the trees of the keys on both sides of a pivot, which compare compares with a key.
func split[K cmp.Ordered, V any](n *node[K, V], compare func(K) int) (less, greater *node[K, V]) {
	if n == nil {
		return nil, nil
	}
	switch c := compare(n.key); {
	case c < 0:
		less, greater = split(n.left, compare)
		return less, join(greater, n, n.right)
	case c > 0:
		less, greater = split(n.right, compare)
		return join(n.left, n, less), greater
	}
	return n.left, n.right
}

// find returns the node whose key is the pivot, which compare compares with a key; nil without one.
func find[K cmp.Ordered, V any](n *node[K, V], compare func(K) int) *node[K, V] {
	for n != nil {
		c := compare(n.key)
		if c == 0 {
			return n
		}
		if c < 0 {
			n = n.left
		} else {
			n = n.right
		}
	}
	return nil
}

// nodes yields the nodes of a tree in ascending order of their keys.
func nodes[K cmp.Ordered, V any](n *node[K, V]) iter.Seq[*node[K, V]] {
	return func(yield func(*node[K, V]) bool) {
		var path []*node[K, V] // the nodes that are still to be yielded, ahead of what is right of them
		below := n
		for below != nil || len(path) > 0 {
			for ; below != nil; below = below.left {
				path = append(path, below)
			}
			last := len(path) - 1
			next := path[last]
			path = path[:last]
			if !yield(next) {
				return
			}
			below = next.right
		}
	}
}
