package syntax

import (
	"iter"

	"apodixis/api"
)

// Equal reports whether two trees are equal. It does not call itself, as trees may be of any depth.
func Equal(a, b api.Tree) bool {
	stack := [][2]api.Tree{{a, b}}
	for len(stack) > 0 {
		last := len(stack) - 1
		a, b := stack[last][0], stack[last][1]
		stack = stack[:last]
		if a.Label != b.Label || len(a.Kids) != len(b.Kids) {
			return false
		}
		for i, k := range a.Kids {
			stack = append(stack, [2]api.Tree{k, b.Kids[i]})
		}
	}
	return true
}

// Size returns the number of nodes of a tree, and its depth.
func Size(t api.Tree) (nodes, depth int) {
	type part struct {
		tree  api.Tree
		depth int
	}
	stack := []part{{t, 1}}
	for len(stack) > 0 {
		last := len(stack) - 1
		p := stack[last]
		stack = stack[:last]
		nodes++
		depth = max(depth, p.depth)
		for _, k := range p.tree.Kids {
			stack = append(stack, part{k, p.depth + 1})
		}
	}
	return nodes, depth
}

// limited returns the error of the size of a tree.
func limited(nodes, depth int) api.Errno {
	if nodes > api.MaxNodes {
		return api.ErrSize
	}
	if depth > api.MaxDepth {
		return api.ErrDepth
	}
	return api.OK
}

// node is a part of a tree, and its path, which is changed when the next one is yielded.
type node struct {
	part api.Tree
	path []int
}

// nodes yields the parts of a tree, each ahead of its Kids.
func nodes(t api.Tree) iter.Seq[node] {
	return func(yield func(node) bool) {
		var path []int
		var walk func(t api.Tree) bool
		walk = func(t api.Tree) bool {
			if !yield(node{t, path}) {
				return false
			}
			path = append(path, 0)
			for i, k := range t.Kids {
				path[len(path)-1] = i
				if !walk(k) {
					return false
				}
			}
			path = path[:len(path)-1]
			return true
		}
		walk(t)
	}
}

// copied returns a tree as new memory.
func copied(t api.Tree) api.Tree {
	result := api.Tree{Label: t.Label}
	for _, k := range t.Kids {
		result.Kids = append(result.Kids, copied(k))
	}
	return result
}

// find returns the part of a tree at a path, in the tree's own memory.
func find(t *api.Tree, path []int) (*api.Tree, bool) {
	for _, i := range path {
		if i < 0 || i >= len(t.Kids) {
			return nil, false
		}
		t = &t.Kids[i]
	}
	return t, true
}

// At returns the part of a tree at a path.
func At(t api.Tree, path []int) (api.Tree, api.Errno) {
	part, ok := find(&t, path)
	if !ok {
		return api.Tree{}, api.ErrNone
	}
	return copied(*part), api.OK
}

// Put returns a tree with another part at a path.
func Put(t api.Tree, path []int, part api.Tree) (api.Tree, api.Errno) {
	result := copied(t)
	at, ok := find(&result, path)
	if !ok {
		return api.Tree{}, api.ErrNone
	}
	*at = copied(part)
	return result, api.OK
}
