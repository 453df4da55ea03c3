package natural

import (
	"iter"

	"apodixis/api"
	"apodixis/token"
)

// node is a formula or a term, with how many nodes and binders stand around it.
type node struct {
	formula         *Formula // nil for a term
	term            *Term
	around, binders int
}

// nodes yields a node and all below it, each ahead of its Terms or Args, and these ahead of its Parts.
func nodes(root node) iter.Seq[node] {
	return func(yield func(node) bool) {
		var walk func(n node) bool
		walk = func(n node) bool {
			if !yield(n) {
				return false
			}
			terms, parts := n.below()
			for i := range terms {
				if !walk(node{term: &terms[i], around: n.around + 1, binders: n.binders}) {
					return false
				}
			}
			inside := n.inside()
			for i := range parts {
				if !walk(node{formula: &parts[i], around: n.around + 1, binders: inside}) {
					return false
				}
			}
			return true
		}
		walk(root)
	}
}

// below returns the terms and the formulas that a node consists of.
func (n node) below() ([]Term, []Formula) {
	if n.formula == nil {
		return n.term.Args, nil
	}
	return n.formula.Terms, n.formula.Parts
}

// inside returns how many binders there are around the parts of a node.
func (n node) inside() int {
	if n.formula != nil && isBinder(n.formula.Kind) {
		return n.binders + 1
	}
	return n.binders
}

// err returns the error of a node by itself.
func (n node) err() api.Errno {
	ok := true
	switch {
	case n.formula != nil:
		_, ok = sentenceOf(*n.formula)
	case n.term.Name != "":
		ok = token.IsSymbol(n.term.Name) && n.term.Index == 0
	default:
		ok = len(n.term.Args) == 0 && n.term.Index >= 0
		if ok && n.term.Index >= n.binders {
			return ErrBound
		}
	}
	if !ok {
		return api.ErrForm
	}
	return api.OK
}

// fits reports whether a node has no more nodes, and is no deeper, than a formula may.
func fits(root node) bool {
	count := 0
	for n := range nodes(root) {
		count++
		if count > api.MaxNodes || n.around >= api.MaxDepth {
			return false
		}
	}
	return true
}

// errorOf returns the error of a formula or a term, with as many binders around it as the node tells.
func errorOf(root node) api.Errno {
	if !fits(root) {
		return api.ErrSize
	}
	for n := range nodes(root) {
		if e := n.err(); e != api.OK {
			return e
		}
	}
	return api.OK
}
