package define

import (
	"iter"
	"slices"

	"apodixis/api"
	"apodixis/book"
	"apodixis/frame"
	"apodixis/grammar"
)

// reader finds the definitions of a database. Each formula is parsed once.
type reader struct {
	*book.Book
	rules  Rules
	first  map[string]int // of each label the first assertion that uses it in a formula that it asserts, or requires
	looked int            // how many assertions were looked through for first
}

// open returns a reader, or the error of the grammar or of the rules.
func open(db api.Database, r Rules) (*reader, api.Errno) {
	b, e := book.Open(db)
	if e != api.OK {
		return nil, e
	}
	if len(r.Equal) > api.MaxHyps || len(r.Bound) > api.MaxHyps {
		return nil, api.ErrSize
	}
	for _, label := range r.Equal {
		if !isEquality(b, label) {
			return nil, api.ErrArg
		}
	}
	for _, sort := range r.Bound {
		if !slices.Contains(b.Grammar.Sorts, sort) {
			return nil, api.ErrArg
		}
	}
	return &reader{Book: b, rules: r, first: map[string]int{}}, api.OK
}

// isEquality reports whether a label is that of a rule with two expressions of one sort.
func isEquality(b *book.Book, label string) bool {
	rule, _ := b.Rule(label)
	var sorts []string
	for _, p := range rule.Parts {
		if p.Sort != "" {
			sorts = append(sorts, p.Sort)
		}
	}
	return len(sorts) == 2 && sorts[0] == sorts[1]
}

// labels yields the labels of a tree.
func labels(t api.Tree) iter.Seq[string] {
	return func(yield func(string) bool) {
		for n := range book.Nodes(t) {
			if !yield(n.Label) {
				return
			}
		}
	}
}

// asserted yields the trees of the formulas with the turnstile that an assertion requires, and of its own one, as far as they have any.
func (x *reader) asserted(f api.Frame) iter.Seq[api.Tree] {
	return func(yield func(api.Tree) bool) {
		texts := [][]string{}
		for _, h := range f.Hyps {
			if isEssential(h) {
				texts = append(texts, h.Text)
			}
		}
		for _, text := range append(texts, f.Text) {
			if text[0] != grammar.Turnstile {
				continue
			}
			if t, e := x.Tree(text); e == api.OK && !yield(t) {
				return
			}
		}
	}
}

// isUsedAhead reports whether a label occurs in an asserted formula of an assertion ahead of a number.
func (x *reader) isUsedAhead(label string, number int) bool {
	for ; x.looked < number; x.looked++ {
		for t := range x.asserted(x.Database.Frames[x.looked]) {
			for label := range labels(t) {
				if _, ok := x.first[label]; !ok {
					x.first[label] = x.looked
				}
			}
		}
	}
	first, ok := x.first[label]
	return ok && first < number
}

// variables returns the labels of the variables of a tree, in the order in which they occur first.
func (x *reader) variables(t api.Tree) []string {
	var l []string
	for label := range labels(t) {
		if x.IsVariable(label) && !slices.Contains(l, label) {
			l = append(l, label)
		}
	}
	return l
}

// candidate returns the assertion with a number, if it has the form of a definition.
func (x *reader) candidate(number int) (candidate, api.Errno) {
	if number < 0 || number >= len(x.Database.Frames) {
		return candidate{}, api.ErrNone
	}
	f := x.Database.Frames[number]
	if f.Theorem || f.Text[0] != grammar.Turnstile {
		return candidate{}, api.ErrState
	}
	if hasPremises(f) {
		return candidate{}, ErrHyps
	}
	t, e := x.Tree(f.Text)
	if e != api.OK {
		return candidate{}, e
	}
	if !slices.Contains(x.rules.Equal, t.Label) {
		return candidate{}, ErrEqual
	}
	c := candidate{reader: x, number: number, equal: t.Label}
	left, right := t.Kids[0], t.Kids[1]
	for _, k := range left.Kids {
		if !x.IsVariable(k.Label) || slices.Contains(c.Args, k.Label) {
			return candidate{}, ErrArgs
		}
		c.Args = append(c.Args, k.Label)
	}
	if x.IsVariable(left.Label) {
		return candidate{}, ErrArgs
	}
	c.Label, c.Right = left.Label, right
	isArg := func(label string) bool { return slices.Contains(c.Args, label) }
	c.Dummies = slices.DeleteFunc(x.variables(right), isArg)
	return c, api.OK
}

// definition returns the definition with a number, or its error.
func (x *reader) definition(number int) (candidate, api.Errno) {
	c, e := x.candidate(number)
	if e != api.OK {
		return candidate{}, e
	}
	for _, d := range conditions() {
		if !d.holds(c) {
			return candidate{}, d.e
		}
	}
	return c, api.OK
}

// definitions yields all definitions, in order.
func (x *reader) definitions() iter.Seq[candidate] {
	return func(yield func(candidate) bool) {
		for i := range x.Database.Frames {
			if c, e := x.definition(i); e == api.OK && !yield(c) {
				return
			}
		}
	}
}

// axiom returns the number of the definiendum's axiom.
func (c candidate) axiom() int { return frame.Find(c.Database, c.Label) }
