package unify

import (
	"apodixis/api"
	"apodixis/grammar"
	"apodixis/subst"
	"apodixis/syntax"
)

// Fresh returns an assertion as trees whose variables are work variables, with numbers from one on: its essential hypotheses, its formula, and the work variables of its floating hypotheses, in order.
func Fresh(db api.Database, i, from int) (hyps []api.Tree, goal api.Tree, works []Sub, e api.Errno) {
	if _, e := grammar.Of(db); e != api.OK {
		return nil, api.Tree{}, nil, e
	}
	if i < 0 || i >= len(db.Frames) {
		return nil, api.Tree{}, nil, api.ErrNone
	}
	f := db.Frames[i]
	works, e = worksOf(f, from)
	if e != api.OK {
		return nil, api.Tree{}, nil, e
	}
	c := changeOf(works)
	for _, h := range f.Hyps {
		if h.Floating {
			continue
		}
		t, e := syntax.Tree(db, h.Text)
		if e != api.OK {
			return nil, api.Tree{}, nil, e
		}
		hyps = append(hyps, c.apply(t))
	}
	t, e := syntax.Tree(db, f.Text)
	if e != api.OK {
		return nil, api.Tree{}, nil, e
	}
	return hyps, c.apply(t), works, api.OK
}

// worksOf returns the work variables of the floating hypotheses of a frame.
func worksOf(f api.Frame, from int) ([]Sub, api.Errno) {
	if from < 0 || from > maxNumber {
		return nil, api.ErrRange
	}
	var l []Sub
	for _, h := range f.Hyps {
		if !h.Floating {
			continue
		}
		label, e := Work(h.Text[0], from+len(l))
		if e != api.OK {
			return nil, e
		}
		l = append(l, Sub{h.Label, api.Tree{Label: label}})
	}
	return l, api.OK
}

// Apart returns the pairs of variables and work variables that pairs of variables require, behind a substitution.
func Apart(db api.Database, l []Sub, pairs []api.Pair) ([]api.Pair, api.Errno) {
	s, e := newSigns(db)
	if e != api.OK {
		return nil, e
	}
	for _, x := range l {
		if _, e := s.sort(x.Tree); e != api.OK {
			return nil, e
		}
	}
	c, known := changeOf(l), map[string][]string{}
	find := func(label string) []string {
		found, ok := known[label]
		if !ok {
			found = s.open(c.apply(api.Tree{Label: label}))
			known[label] = found
		}
		return found
	}
	needed := map[api.Pair]bool{}
	for _, p := range pairs {
		if !s.isOpen(p.A) || !s.isOpen(p.B) {
			return nil, api.ErrForm
		}
		for _, x := range find(p.A) {
			for _, y := range find(p.B) {
				if x == y && s.rules[x].isVariable {
					return nil, api.ErrApart
				}
				needed[api.Pair{A: min(x, y), B: max(x, y)}] = true
			}
		}
	}
	// There may be far more pairs of leaves than different ones, so that these alone are listed.
	required := make([]api.Pair, 0, len(needed))
	for p := range needed {
		required = append(required, p)
	}
	return subst.Sorted(required), api.OK
}

// open returns the variables and work variables among the leaves of a tree, each once.
func (s signs) open(t api.Tree) []string {
	found := map[string]bool{}
	var l []string
	for label := range leaves(t) {
		if s.isOpen(label) && !found[label] {
			found[label] = true
			l = append(l, label)
		}
	}
	return l
}
