package natural

import "apodixis/token"

// sentence is a formula by what its Kind uses.
type sentence interface{ formula() Formula }

// atom is a predicate with its arguments.
type atom struct {
	name  string
	terms []Term
}

// equation is the equation of two terms.
type equation struct{ left, right Term }

// falsity is False.
type falsity struct{}

// joined is an Implies, an And or an Or.
type joined struct {
	kind          int
	first, second Formula
}

// bound is an All or a Some.
type bound struct {
	kind int
	part Formula
}

func (a atom) formula() Formula { return Formula{Kind: Atom, Name: a.name, Terms: a.terms} }

func (e equation) formula() Formula { return Formula{Kind: Equal, Terms: []Term{e.left, e.right}} }

func (falsity) formula() Formula { return Formula{Kind: False} }

func (j joined) formula() Formula {
	return Formula{Kind: j.kind, Parts: []Formula{j.first, j.second}}
}

func (b bound) formula() Formula { return Formula{Kind: b.kind, Parts: []Formula{b.part}} }

// sentenceOf returns what a formula is, if it has just what its Kind uses.
func sentenceOf(f Formula) (sentence, bool) {
	if f.Kind == Atom {
		return atom{f.Name, f.Terms}, token.IsSymbol(f.Name) && len(f.Parts) == 0
	}
	if f.Name != "" || len(f.Terms) != termsOf(f.Kind) || len(f.Parts) != partsOf(f.Kind) {
		return falsity{}, false
	}
	switch f.Kind {
	case Equal:
		return equation{f.Terms[0], f.Terms[1]}, true
	case Implies, And, Or:
		return joined{f.Kind, f.Parts[0], f.Parts[1]}, true
	case All, Some:
		return bound{f.Kind, f.Parts[0]}, true
	}
	return falsity{}, f.Kind == False
}

// termsOf and partsOf return how many of them a Kind other than Atom uses.
func termsOf(kind int) int {
	if kind == Equal {
		return 2
	}
	return 0
}

func partsOf(kind int) int {
	switch kind {
	case Implies, And, Or:
		return 2
	case All, Some:
		return 1
	}
	return 0
}

func isBinder(kind int) bool { return kind == All || kind == Some }

// quantified returns a formula as an All or a Some, if it is one.
func quantified(f Formula) (bound, bool) {
	s, _ := sentenceOf(f)
	b, ok := s.(bound)
	return b, ok
}
