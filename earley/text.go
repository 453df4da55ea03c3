package earley

import (
	"apodixis/api"
	"apodixis/grammar"
)

// measure returns the error of the size of a tree. It leaves a tree that is too large at once, so that it does not go deep into it.
func measure(t api.Tree) api.Errno {
	nodes, deepest := 0, 0
	var walk func(t api.Tree, depth int) bool
	walk = func(t api.Tree, depth int) bool {
		nodes++
		deepest = max(deepest, depth)
		if nodes > api.MaxNodes {
			return false
		}
		for _, k := range t.Kids {
			if !walk(k, depth+1) {
				return false
			}
		}
		return true
	}
	if !walk(t, 1) {
		return api.ErrSize
	}
	if deepest > api.MaxDepth {
		return api.ErrDepth
	}
	return api.OK
}

// reader knows the rules of a grammar by their labels.
type reader map[string]grammar.Rule

func newReader(g grammar.Grammar) reader {
	r := reader{}
	for _, x := range g.Rules {
		r[x.Label] = x
	}
	return r
}

// isTree reports whether each node of a tree has a rule with such Kids.
func (r reader) isTree(t api.Tree) bool {
	x, ok := r[t.Label]
	if !ok || len(t.Kids) != countArgs(x.Parts) {
		return false
	}
	for _, p := range x.Parts {
		if p.Sort != "" && r[t.Kids[p.Arg].Label].Sort != p.Sort {
			return false
		}
	}
	for _, k := range t.Kids {
		if !r.isTree(k) {
			return false
		}
	}
	return true
}

// text adds the symbols of a tree to a text, up to one more than are permitted.
func (r reader) text(l []string, t api.Tree) []string {
	for _, p := range r[t.Label].Parts {
		if len(l) > api.MaxFormula {
			return l
		}
		if p.Sort == "" {
			l = append(l, p.Symbol)
		} else {
			l = r.text(l, t.Kids[p.Arg])
		}
	}
	return l
}

// open returns the rules of a grammar, and the error of a tree.
func open(g grammar.Grammar, t api.Tree) (reader, api.Errno) {
	if e := grammar.Check(g); e != api.OK {
		return nil, e
	}
	if e := measure(t); e != api.OK {
		return nil, e
	}
	r := newReader(g)
	if !r.isTree(t) {
		return nil, api.ErrForm
	}
	return r, api.OK
}

// Text returns the text of a tree.
func Text(g grammar.Grammar, t api.Tree) ([]string, api.Errno) {
	r, e := open(g, t)
	if e != api.OK {
		return nil, e
	}
	l := r.text(nil, t)
	if len(l) > api.MaxFormula {
		return nil, api.ErrLarge
	}
	return l, api.OK
}

// Sort returns the sort of a tree.
func Sort(g grammar.Grammar, t api.Tree) (string, api.Errno) {
	r, e := open(g, t)
	if e != api.OK {
		return "", e
	}
	return r[t.Label].Sort, api.OK
}
