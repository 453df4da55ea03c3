package define

import (
	"slices"

	"apodixis/api"
	"apodixis/grammar"
	"apodixis/unify"
)

// candidate is an assertion that has the form of a definition.
type candidate struct {
	*reader
	Definition
	number int
	equal  string // the equality at its root
}

// condition is what a candidate has to meet, and the error of one that does not.
type condition struct {
	holds func(candidate) bool
	e     api.Errno
}

// conditions returns the conditions of a definition, in the order in which their errors are told.
func conditions() [4]condition {
	return [...]condition{
		{candidate.isNew, ErrNew},
		{candidate.isStraight, ErrCircle},
		{candidate.isBound, ErrBound},
		{candidate.isApart, ErrDummy},
	}
}

// isNew reports whether the definiendum stands ahead, and nothing was said of it.
func (c candidate) isNew() bool {
	return c.axiom() < c.number && !c.isUsedAhead(c.Label, c.number)
}

// isStraight reports whether the right side does without the definiendum.
func (c candidate) isStraight() bool {
	for label := range labels(c.Right) {
		if label == c.Label {
			return false
		}
	}
	return true
}

// isBound reports whether all dummies are of sorts whose variables are bound.
func (c candidate) isBound() bool {
	return !slices.ContainsFunc(c.Dummies, func(label string) bool {
		rule, _ := c.Rule(label)
		return !slices.Contains(c.rules.Bound, rule.Sort)
	})
}

// isApart reports whether each dummy is disjoint from all other variables.
func (c candidate) isApart() bool {
	apart := c.pairs(c.Database.Frames[c.number])
	all := slices.Concat(c.Args, c.Dummies)
	return !slices.ContainsFunc(c.Dummies, func(dummy string) bool {
		return slices.ContainsFunc(all, func(other string) bool {
			return other != dummy && !apart[[2]string{dummy, other}]
		})
	})
}

// pairs returns the disjoint pairs of an assertion as labels, in both orders.
func (x *reader) pairs(f api.Frame) map[[2]string]bool {
	labels := map[string]string{}
	for _, r := range x.Grammar.Rules {
		if r.Variable {
			labels[r.Parts[0].Symbol] = r.Label
		}
	}
	apart := map[[2]string]bool{}
	for _, p := range f.Apart {
		a, b := labels[p.A], labels[p.B]
		apart[[2]string{a, b}], apart[[2]string{b, a}] = true, true
	}
	return apart
}

// isJustified reports whether an assertion says that the dummies do not matter.
func (c candidate) isJustified(f api.Frame) bool {
	if f.Text[0] != grammar.Turnstile || hasPremises(f) {
		return false
	}
	t, e := c.Tree(f.Text)
	if e != api.OK || t.Label != c.equal {
		return false
	}
	left, ok := c.renamed(t.Kids[0])
	if !ok {
		return false
	}
	right, ok := c.renamed(t.Kids[1])
	return ok && c.isVaried(left, right) && c.isPermitted(f, left, right)
}

// renamed returns the variables that make a tree of the right side.
func (c candidate) renamed(t api.Tree) (map[string]string, bool) {
	l, e := unify.Match(c.Database, c.Right, t)
	if e != api.OK {
		return nil, false
	}
	names := map[string]string{}
	for _, s := range l {
		if !c.IsVariable(s.Tree.Label) {
			return nil, false
		}
		names[s.Label] = s.Tree.Label
	}
	return names, true
}

// isVaried reports whether two renamings differ in the dummies alone, and give different variables.
func (c candidate) isVaried(left, right map[string]string) bool {
	given := map[string]bool{}
	isNew := func(label string) bool {
		known := given[label]
		given[label] = true
		return !known
	}
	for label, name := range left {
		isArg := slices.Contains(c.Args, label)
		if isArg && right[label] != name || !isArg && !isNew(right[label]) || !isNew(name) {
			return false
		}
	}
	return true
}

// isPermitted reports whether all pairs of an assertion have a variable that a dummy became, or are required by the definition.
func (c candidate) isPermitted(f api.Frame, left, right map[string]string) bool {
	permitted := map[[2]string]bool{}
	for p := range c.pairs(c.Database.Frames[c.number]) {
		permitted[[2]string{left[p[0]], left[p[1]]}] = true
	}
	dummies := map[string]bool{}
	for _, label := range c.Dummies {
		dummies[left[label]], dummies[right[label]] = true, true
	}
	for p := range c.pairs(f) {
		if !dummies[p[0]] && !dummies[p[1]] && !permitted[p] {
			return false
		}
	}
	return true
}
