package carry

import (
	"slices"

	"apodixis/api"
	"apodixis/fault"
	"apodixis/grammar"
	"apodixis/meaning"
	"apodixis/natural"
)

// meanings are what variables mean, by the labels of their floating hypotheses.
type meanings map[string]meaning.Meaning

// formulaOf returns the translation of a formula.
func (r *room) formulaOf(text []string, m meanings) (natural.Formula, api.Errno) {
	t, e := r.book.Tree(text)
	if e != api.OK {
		return natural.Formula{}, e
	}
	if grammar.Sort(text[0]) != grammar.Formula {
		return natural.Formula{}, ErrSyntax
	}
	x, e := r.translation(t, m)
	return x.Formula, e
}

// translation returns what a tree means.
func (r *room) translation(t api.Tree, m meanings) (meaning.Meaning, api.Errno) {
	if !r.translates(t, m) {
		return meaning.Meaning{}, ErrSyntax
	}
	rule, _ := r.book.Rule(t.Label)
	if rule.Sort != grammar.Formula {
		x := r.term(t, m)
		if !meaning.Fits(x) {
			return meaning.Meaning{}, api.ErrLarge
		}
		return meaning.Meaning{Term: x}, api.OK
	}
	var f natural.Formula
	e := fault.Guard(ErrSyntax, func() {
		f = r.formula(t, m)
		fault.Require(natural.Well(f) == api.OK, api.ErrLarge)
	})
	if e != api.OK {
		return meaning.Meaning{}, e
	}
	return meaning.Meaning{Formula: f}, api.OK
}

// translates reports whether a tree has a translation. (The individual of an All or a Some is a variable, as a database with them has no others, and that of a variable is always a parameter.)
func (r *room) translates(t api.Tree, m meanings) bool {
	rule, ok := r.book.Rule(t.Label)
	if _, known := m[t.Label]; !ok || rule.Variable {
		return ok && known
	}
	isIndividual := rule.Sort == r.logic.Set
	if _, known := r.signs[t.Label]; !known && (rule.Sort != grammar.Formula && !isIndividual || !meaning.IsPlain(rule, r.logic.Set)) {
		return false
	}
	return !slices.ContainsFunc(t.Kids, func(k api.Tree) bool { return !r.translates(k, m) })
}

// args returns the arguments of a node.
func (r *room) args(t api.Tree) []api.Tree {
	rule, _ := r.book.Rule(t.Label)
	var l []api.Tree
	for _, a := range meaning.Args(rule) {
		l = append(l, t.Kids[a.Arg])
	}
	return l
}

// terms returns the translations of individuals.
func (r *room) terms(l []api.Tree, m meanings) []natural.Term {
	var result []natural.Term
	for _, t := range l {
		result = append(result, r.term(t, m))
	}
	return result
}

// term returns the translation of an individual, which may share memory with those of variables.
func (r *room) term(t api.Tree, m meanings) natural.Term {
	if x, ok := m[t.Label]; ok {
		return x.Term
	}
	return natural.Term{Name: t.Label, Args: r.terms(r.args(t), m)}
}

// formula returns the translation of a wff, which may share memory with those of variables. It leaves with ErrLarge as soon as it is seen that it is not well-formed.
func (r *room) formula(t api.Tree, m meanings) natural.Formula {
	if x, ok := m[t.Label]; ok {
		return x.Formula
	}
	args := r.args(t)
	switch sign := r.signs[t.Label]; sign {
	case 0:
		return natural.Formula{Kind: natural.Atom, Name: t.Label, Terms: r.terms(args, m)}
	case '=':
		return natural.Formula{Kind: natural.Equal, Terms: r.terms(args, m)}
	case '~':
		return meaning.Not(r.formula(args[0], m))
	case 'A', 'E':
		return quantified(kindOf(sign), r.term(args[0], m), r.formula(args[1], m))
	default:
		f := natural.Formula{Kind: kindOf(sign)}
		for _, a := range args {
			f.Parts = append(f.Parts, r.formula(a, m))
		}
		return f
	}
}

// quantified returns the formula of a kind that binds a parameter.
func quantified(kind int, x natural.Term, f natural.Formula) natural.Formula {
	f, e := natural.Abstract(kind, f, x.Name)
	fault.Require(e == api.OK, api.ErrLarge)
	return f
}

// kindOf returns the kind of formulas that a sign but that of Not stands for.
func kindOf(sign byte) int {
	switch sign {
	case '>':
		return natural.Implies
	case '&':
		return natural.And
	case '|':
		return natural.Or
	case 'A':
		return natural.All
	case 'E':
		return natural.Some
	case '=':
		return natural.Equal
	}
	return natural.False
}

// closed returns a formula bound over its parameters that are no labels, and these, the outermost one first.
func (r *room) closed(f natural.Formula) (result natural.Formula, names []string, e api.Errno) {
	names = meaning.Closing(r.book.Database, f)
	e = fault.Guard(ErrSyntax, func() {
		for _, name := range slices.Backward(names) {
			f = quantified(natural.All, meaning.Parameter(name), f)
		}
	})
	if e != api.OK {
		return natural.Formula{}, nil, e
	}
	return f, names, api.OK
}
