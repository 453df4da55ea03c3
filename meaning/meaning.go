package meaning

import (
	"apodixis/api"
	"apodixis/book"
	"apodixis/grammar"
	"apodixis/natural"
)

// Meaning is what a variable means: a formula, or a term, if it is an individual one.
type Meaning struct {
	Formula natural.Formula
	Term    natural.Term
}

// Size returns the number of nodes and the depth of the formula or the term.
func (m Meaning) Size() (nodes, depth int) {
	var term func(t natural.Term, around int)
	term = func(t natural.Term, around int) {
		nodes, depth = nodes+1, max(depth, around+1)
		for _, a := range t.Args {
			term(a, around+1)
		}
	}
	var formula func(f natural.Formula, around int)
	formula = func(f natural.Formula, around int) {
		nodes, depth = nodes+1, max(depth, around+1)
		for _, t := range f.Terms {
			term(t, around+1)
		}
		for _, p := range f.Parts {
			formula(p, around+1)
		}
	}
	if m.Formula.Kind == 0 {
		term(m.Term, 0)
	} else {
		formula(m.Formula, 0)
	}
	return nodes, depth
}

// Of returns what variables mean in an assertion of a database, by their labels, where individuals have the typecode set.
func Of(b *book.Book, set string, f api.Frame) map[string]Meaning {
	apart := map[api.Pair]bool{}
	for _, p := range f.Wide {
		apart[p] = true
	}
	m := map[string]Meaning{}
	var individuals []string
	for _, v := range b.Database.Variables {
		if r, _ := b.Rule(b.LabelOf(v)); r.Sort == set {
			m[r.Label] = Meaning{Term: Parameter(v)}
			individuals = append(individuals, v)
		}
	}
	for _, v := range b.Database.Variables {
		r, _ := b.Rule(b.LabelOf(v))
		if r.Sort != grammar.Formula {
			continue
		}
		atom := natural.Formula{Kind: natural.Atom, Name: v}
		for _, x := range individuals {
			if !apart[api.Pair{A: min(v, x), B: max(v, x)}] {
				atom.Terms = append(atom.Terms, Parameter(x))
			}
		}
		m[r.Label] = Meaning{Formula: atom}
	}
	return m
}

// Args returns the arguments of a rule: those parts that are expressions, in the order of the text.
func Args(r grammar.Rule) []grammar.Part {
	var l []grammar.Part
	for _, p := range r.Parts {
		if p.Sort != "" {
			l = append(l, p)
		}
	}
	return l
}

// IsPlain reports whether all arguments of a rule have a certain sort.
func IsPlain(r grammar.Rule, sort string) bool {
	for _, p := range Args(r) {
		if p.Sort != sort {
			return false
		}
	}
	return true
}

// MinorFirst reports whether the premise p of modus ponens stands ahead of ( p -> q ).
func MinorFirst(b *book.Book, mp api.Frame) bool {
	t, _ := b.Tree(book.Premises(mp)[0].Text)
	return b.IsVariable(t.Label)
}
