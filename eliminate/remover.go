package eliminate

import (
	"slices"

	"apodixis/api"
	"apodixis/book"
	"apodixis/define"
	"apodixis/syntax"
)

// remover eliminates a definition from trees.
type remover struct {
	*book.Book
	define.Definition
	counts map[string]int    // how often each argument occurs in the right side
	others int               // how many nodes of it are no arguments
	given  map[string]string // what its dummies become
}

func newRemover(b *book.Book, d define.Definition) remover {
	x := remover{Book: b, Definition: d, counts: map[string]int{}, given: map[string]string{}}
	for n := range book.Nodes(d.Right) {
		if slices.Contains(d.Args, n.Label) {
			x.counts[n.Label]++
		} else {
			x.others++
		}
	}
	return x
}

// give sets what the dummies become in a tree.
func (x remover) give(t api.Tree, dummies []string) {
	if len(dummies) != len(x.Dummies) {
		must(api.ErrSize)
	}
	for i, label := range dummies {
		rule, _ := x.Rule(label)
		dummy, _ := x.Rule(x.Dummies[i])
		switch {
		case !rule.Variable || rule.Sort != dummy.Sort:
			must(api.ErrType)
		case slices.Contains(dummies[:i], label):
			must(api.ErrTwice)
		}
		for n := range book.Nodes(t) {
			if n.Label == label {
				must(ErrDummy)
			}
		}
		x.given[x.Dummies[i]] = label
	}
}

// without returns the elimination of a tree, as new memory.
func (x remover) without(t api.Tree) api.Tree {
	result := x.reduced(t).tree
	if _, depth := syntax.Size(result); depth > api.MaxDepth {
		must(api.ErrDepth)
	}
	return result
}

// measured is a tree and the number of its nodes.
type measured struct {
	tree  api.Tree
	nodes int
}

// reduced returns the elimination of a tree of any depth; it leaves, if this, or that of a part of the tree, is too large.
func (x remover) reduced(t api.Tree) measured {
	result := measured{api.Tree{Label: t.Label}, 1}
	kids := map[string]api.Tree{} // by the arguments of the definiendum
	isRemoved := t.Label == x.Label
	if isRemoved {
		result.nodes = x.others
	}
	for i, k := range t.Kids {
		kid := x.reduced(k)
		if isRemoved {
			kids[x.Args[i]] = kid.tree
			result.nodes += kid.nodes * x.counts[x.Args[i]]
		} else {
			result.tree.Kids = append(result.tree.Kids, kid.tree)
			result.nodes += kid.nodes
		}
	}
	if result.nodes > api.MaxNodes {
		must(api.ErrLarge)
	}
	if isRemoved {
		result.tree = x.filled(x.Right, kids)
	}
	return result
}

// filled returns a part of the right side with trees in the place of the arguments.
func (x remover) filled(t api.Tree, kids map[string]api.Tree) api.Tree {
	if k, ok := kids[t.Label]; ok {
		return book.Copy(k)
	}
	if label, ok := x.given[t.Label]; ok {
		return api.Tree{Label: label}
	}
	result := api.Tree{Label: t.Label}
	for _, k := range t.Kids {
		result.Kids = append(result.Kids, x.filled(k, kids))
	}
	return result
}
