package deduct

import (
	"slices"

	"apodixis/api"
	"apodixis/book"
	"apodixis/carry"
	"apodixis/fault"
	"apodixis/grammar"
	"apodixis/meaning"
	"apodixis/natural"
)

// room is an assertion of a database with a right logic, and what variables mean there, by their labels.
type room struct {
	book     *book.Book
	logic    carry.Logic
	number   int
	frame    api.Frame
	meanings map[string]meaning.Meaning
}

// enter returns the room of an assertion, or the error of the logic or of the number.
func enter(db api.Database, l carry.Logic, i int) (*room, api.Errno) {
	if e := carry.Check(db, l); e != api.OK {
		return nil, e
	}
	if i < 0 || i >= len(db.Frames) {
		return nil, api.ErrRange
	}
	b, e := book.Open(db)
	if e != api.OK {
		return nil, e
	}
	return &room{b, l, i, db.Frames[i], meaning.Of(b, l.Set, db.Frames[i])}, api.OK
}

// formula returns the tree that a well-formed formula is the translation of.
func (r *room) formula(f natural.Formula) api.Tree {
	switch f.Kind {
	case natural.Atom:
		return r.atom(f)
	case natural.Equal:
		return r.node(r.logic.Eq, r.terms(f.Terms)...)
	case natural.False:
		return r.node(r.logic.False)
	case natural.Implies:
		if r.logic.Not != "" && f.Parts[1].Kind == natural.False {
			return r.node(r.logic.Not, r.formula(f.Parts[0]))
		}
		return r.node(r.logic.Imp, r.formulas(f.Parts)...)
	case natural.And:
		return r.node(r.logic.And, r.formulas(f.Parts)...)
	case natural.Or:
		return r.node(r.logic.Or, r.formulas(f.Parts)...)
	case natural.All:
		return r.binder(r.logic.All, f)
	}
	return r.binder(r.logic.Some, f)
}

// node returns the tree of a syntax axiom with arguments in the order of its text.
func (r *room) node(label string, args ...api.Tree) api.Tree {
	fault.Require(label != "", ErrFragment)
	rule, _ := r.book.Rule(label)
	t := api.Tree{Label: label}
	if len(args) > 0 {
		t.Kids = make([]api.Tree, len(args))
	}
	for n, a := range meaning.Args(rule) {
		t.Kids[a.Arg] = args[n]
	}
	return t
}

func (r *room) formulas(l []natural.Formula) []api.Tree {
	var trees []api.Tree
	for _, f := range l {
		trees = append(trees, r.formula(f))
	}
	return trees
}

func (r *room) terms(l []natural.Term) []api.Tree {
	var trees []api.Tree
	for _, t := range l {
		trees = append(trees, r.term(t))
	}
	return trees
}

// atom returns the tree of an atom: a variable, or a syntax axiom that has nothing else than individuals.
func (r *room) atom(f natural.Formula) api.Tree {
	label := r.book.LabelOf(f.Name)
	if natural.Same(r.meanings[label].Formula, f) {
		return api.Tree{Label: label}
	}
	fault.Require(!r.isLogical(f.Name), ErrFragment)
	return r.plain(f.Name, grammar.Formula, f.Terms)
}

// isLogical reports whether a label is that of a syntax axiom of the logic.
func (r *room) isLogical(label string) bool {
	l := r.logic
	return slices.Contains([]string{l.Imp, l.Not, l.And, l.Or, l.False, l.All, l.Some, l.Eq}, label)
}

// term returns the tree of a term: a variable, or a syntax axiom.
func (r *room) term(t natural.Term) api.Tree {
	label := r.book.LabelOf(t.Name)
	if rule, _ := r.book.Rule(label); rule.Variable && rule.Sort == r.logic.Set && len(t.Args) == 0 {
		return api.Tree{Label: label}
	}
	return r.plain(t.Name, r.logic.Set, t.Args)
}

// plain returns the tree of a syntax axiom of a sort, all of whose arguments are individuals.
func (r *room) plain(label, sort string, args []natural.Term) api.Tree {
	rule, ok := r.book.Rule(label)
	fault.Require(ok && !rule.Variable && rule.Sort == sort, ErrFragment)
	fault.Require(meaning.IsPlain(rule, r.logic.Set) && len(meaning.Args(rule)) == len(args), ErrFragment)
	return r.node(label, r.terms(args)...)
}

// binder returns the tree of an All or a Some with the first variable that is no parameter of it.
func (r *room) binder(label string, f natural.Formula) api.Tree {
	used := natural.Free(f)
	for _, v := range r.book.Database.Variables {
		x := api.Tree{Label: r.book.LabelOf(v)}
		_, occurs := slices.BinarySearch(used, v)
		if rule, _ := r.book.Rule(x.Label); occurs || rule.Sort != r.logic.Set {
			continue
		}
		g, e := natural.Instance(f, meaning.Parameter(v))
		fault.Require(e == api.OK, ErrFragment)
		return r.node(label, x, r.formula(g))
	}
	fault.Raise(ErrFragment)
	return api.Tree{}
}
