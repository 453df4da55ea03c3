package unify

import (
	"apodixis/api"
	"apodixis/grammar"
	"apodixis/syntax"
)

// sign is what a label stands for: an expression of a sort with kids of these sorts.
type sign struct {
	sort       string
	kids       []string
	isVariable bool
}

// signs are those of a grammar.
type signs struct {
	sorts map[string]bool
	rules map[string]sign
}

func newSigns(db api.Database) (signs, api.Errno) {
	g, e := grammar.Of(db)
	if e != api.OK {
		return signs{}, e
	}
	s := signs{sorts: map[string]bool{}, rules: map[string]sign{}}
	for _, sort := range g.Sorts {
		s.sorts[sort] = true
	}
	for _, r := range g.Rules {
		x := sign{sort: r.Sort, isVariable: r.Variable}
		byArg := map[int]string{}
		for _, p := range r.Parts {
			if p.Sort != "" {
				byArg[p.Arg] = p.Sort
			}
		}
		for arg := range len(byArg) {
			x.kids = append(x.kids, byArg[arg])
		}
		s.rules[r.Label] = x
	}
	return s, api.OK
}

// find returns what a label stands for, also that of a work variable.
func (s signs) find(label string) (sign, bool) {
	if x, ok := s.rules[label]; ok {
		return x, true
	}
	sort, _, ok := IsWork(label)
	return sign{sort: sort}, ok && s.sorts[sort]
}

// isOpen reports whether a label is that of a variable or of a work variable.
func (s signs) isOpen(label string) bool {
	if x, ok := s.rules[label]; ok {
		return x.isVariable
	}
	_, ok := s.find(label)
	return ok
}

// sort returns the sort of a tree, or its error.
func (s signs) sort(t api.Tree) (string, api.Errno) {
	if e := (change{}).measure(t); e != api.OK {
		return "", e
	}
	isTyped := true
	var isFormed func(t api.Tree) bool
	isFormed = func(t api.Tree) bool {
		x, ok := s.find(t.Label)
		if !ok || len(t.Kids) != len(x.kids) {
			return false
		}
		for i, k := range t.Kids {
			if !isFormed(k) {
				return false
			}
			kid, _ := s.find(k.Label)
			isTyped = isTyped && kid.sort == x.kids[i]
		}
		return true
	}
	if !isFormed(t) {
		return "", api.ErrForm
	}
	if !isTyped {
		return "", api.ErrType
	}
	x, _ := s.find(t.Label)
	return x.sort, api.OK
}

// match returns what makes a tree of a pattern of the same sort.
func (s signs) match(pattern, t api.Tree) ([]Sub, bool) {
	var l []Sub
	found := change{}
	var match func(pattern, t api.Tree) bool
	match = func(pattern, t api.Tree) bool {
		if s.isOpen(pattern.Label) {
			x, ok := found[pattern.Label]
			if ok {
				return syntax.Equal(x, t)
			}
			found[pattern.Label] = t
			l = append(l, Sub{pattern.Label, change{}.apply(t)})
			return true
		}
		if pattern.Label != t.Label {
			return false
		}
		for i, k := range pattern.Kids {
			if !match(k, t.Kids[i]) {
				return false
			}
		}
		return true
	}
	ok := match(pattern, t)
	return l, ok
}
