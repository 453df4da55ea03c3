package earley

import (
	"iter"

	"apodixis/api"
	"apodixis/grammar"
)

// Limits of trees.
const (
	maxCount = 1000000000
	maxTrees = 200
)

// Count returns how many trees a forest has.
func Count(f Forest) (int, api.Errno) {
	counts, e := counted(f)
	if e != api.OK {
		return 0, e
	}
	if counts[0] > maxCount {
		return 0, api.ErrLarge
	}
	return counts[0], api.OK
}

// counted returns how many trees each node has that is reached from the node 0; maxCount+1 stands for all greater numbers, too.
func counted(f Forest) ([]int, api.Errno) {
	if !isForest(f) {
		return nil, api.ErrForm
	}
	order, ok := postorder([]int{0}, f.kids)
	if !ok {
		return nil, ErrInfinite
	}
	counts := make([]int, len(f.Nodes))
	for _, n := range order {
		for _, w := range f.Nodes[n].Ways {
			counts[n] = min(counts[n]+product(w, counts), maxCount+1)
		}
	}
	return counts, api.OK
}

// isForest reports whether a forest has a node, and all of its Kids.
func isForest(f Forest) bool {
	for n := range f.Nodes {
		for k := range f.kids(n) {
			if k < 0 || k >= len(f.Nodes) {
				return false
			}
		}
	}
	return len(f.Nodes) > 0
}

// kids yields the kids of all ways of a node.
func (f Forest) kids(n int) iter.Seq[int] {
	return func(yield func(int) bool) {
		for _, w := range f.Nodes[n].Ways {
			for _, k := range w.Kids {
				if !yield(k) {
					return
				}
			}
		}
	}
}

// product returns how many trees a way has.
func product(w Way, counts []int) int {
	result := 1
	for _, k := range w.Kids {
		if counts[k] == 0 {
			return 0
		}
		result = min(result*counts[k], maxCount+1)
	}
	return result
}

// choice is a tree of a node: the one with this index.
type choice struct{ node, index int }

// lister finds the trees of a forest by their indices.
type lister struct {
	forest Forest
	counts []int
}

// way returns the way of a tree, and its Kids.
func (l lister) way(c choice) (Way, []choice) {
	i := c.index
	for _, w := range l.forest.Nodes[c.node].Ways {
		n := product(w, l.counts)
		if i >= n {
			i -= n
			continue
		}
		kids := make([]choice, len(w.Kids))
		for k := len(kids) - 1; k >= 0; k-- {
			n := l.counts[w.Kids[k]]
			kids[k] = choice{w.Kids[k], i % n}
			i /= n
		}
		return w, kids
	}
	return Way{}, nil
}

// kids yields the kids of a tree.
func (l lister) kids(c choice) iter.Seq[choice] {
	return func(yield func(choice) bool) {
		_, kids := l.way(c)
		for _, k := range kids {
			if !yield(k) {
				return
			}
		}
	}
}

// size is the number of nodes of a tree, and its depth.
type size struct{ nodes, depth int }

// check returns the error of the trees that are to be returned.
func (l lister) check(g grammar.Grammar, roots []choice) api.Errno {
	order, _ := postorder(roots, l.kids) // a forest that has counts has no circle
	sizes := map[choice]size{}
	for _, c := range order {
		w, kids := l.way(c)
		if w.Rule < 0 || w.Rule >= len(g.Rules) {
			return api.ErrForm
		}
		s := size{1, 1}
		for _, k := range kids {
			s.nodes = min(s.nodes+sizes[k].nodes, api.MaxNodes+1)
			s.depth = max(s.depth, sizes[k].depth+1)
		}
		sizes[c] = s
	}
	for _, c := range roots {
		if sizes[c].nodes > api.MaxNodes {
			return api.ErrSize
		}
	}
	for _, c := range roots {
		if sizes[c].depth > api.MaxDepth {
			return api.ErrDepth
		}
	}
	return api.OK
}

// Trees returns the first trees of a forest, in order.
func Trees(g grammar.Grammar, f Forest, most int) ([]api.Tree, api.Errno) {
	if e := grammar.Check(g); e != api.OK {
		return nil, e
	}
	counts, e := counted(f)
	if e != api.OK {
		return nil, e
	}
	if most < 0 || most > maxTrees {
		return nil, api.ErrRange
	}
	l := lister{f, counts}
	var roots []choice
	for i := range min(most, counts[0]) {
		roots = append(roots, choice{0, i})
	}
	if e := l.check(g, roots); e != api.OK {
		return nil, e
	}
	var built func(c choice) api.Tree
	built = func(c choice) api.Tree {
		w, kids := l.way(c)
		t := api.Tree{Label: g.Rules[w.Rule].Label}
		for _, k := range kids {
			t.Kids = append(t.Kids, built(k))
		}
		return t
	}
	var trees []api.Tree
	for _, c := range roots {
		trees = append(trees, built(c))
	}
	return trees, api.OK
}
