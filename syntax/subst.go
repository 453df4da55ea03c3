package syntax

import (
	"apodixis/api"
	"apodixis/earley"
)

// size is the number of nodes and the depth of a tree.
type size struct{ nodes, depth int }

// changes are the trees that variables become, by their labels.
type changes map[string]api.Tree

// Subst returns a tree in which variables are replaced, all at once.
func Subst(db api.Database, t api.Tree, l []Change) (api.Tree, api.Errno) {
	g, _, e := checked(db, t)
	if e != api.OK {
		return api.Tree{}, e
	}
	variables := sorts(g, isVariable)
	m := changes{}
	for _, c := range l {
		sort, ok := variables[c.Label]
		if !ok {
			return api.Tree{}, api.ErrArg
		}
		if _, ok := m[c.Label]; ok {
			return api.Tree{}, api.ErrTwice
		}
		other, e := earley.Sort(g, c.Tree)
		if e != api.OK {
			return api.Tree{}, right(e)
		}
		if other != sort {
			return api.Tree{}, api.ErrType
		}
		m[c.Label] = c.Tree
	}
	if e := m.check(t); e != api.OK {
		return api.Tree{}, e
	}
	return m.apply(t), api.OK
}

// check returns the error of the size of a tree under the changes.
func (m changes) check(t api.Tree) api.Errno {
	sizes := map[string]size{}
	for label, x := range m {
		count, depth := Size(x)
		sizes[label] = size{count, depth}
	}
	count, deepest := 0, 0
	for n := range nodes(t) {
		s, ok := sizes[n.part.Label]
		if !ok {
			s = size{1, 1}
		}
		count += s.nodes
		deepest = max(deepest, len(n.path)+s.depth)
	}
	return limited(count, deepest)
}

// apply returns a tree under the changes, as new memory.
func (m changes) apply(t api.Tree) api.Tree {
	if x, ok := m[t.Label]; ok {
		return copied(x)
	}
	result := api.Tree{Label: t.Label}
	for _, k := range t.Kids {
		result.Kids = append(result.Kids, m.apply(k))
	}
	return result
}
