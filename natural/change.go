package natural

import "apodixis/api"

// maker makes formulas and terms anew, as new memory, where a closure tells which terms others stand in for.
type maker struct {
	count  int
	change func(t Term, binders int) (Term, bool)
}

// tooLarge leaves the making of what is not well-formed any more.
type tooLarge struct{}

// each returns what a closure makes of the elements of a list.
func each[N Term | Formula](l []N, work func(N) N) []N {
	var result []N
	for _, n := range l {
		result = append(result, work(n))
	}
	return result
}

// enter counts a node that has so many nodes around it.
func (m *maker) enter(around int) {
	m.count++
	if m.count > api.MaxNodes || around >= api.MaxDepth {
		panic(tooLarge{})
	}
}

func (m *maker) formula(f Formula, around, binders int) Formula {
	m.enter(around)
	inside := node{formula: &f, binders: binders}.inside()
	f.Terms = each(f.Terms, func(t Term) Term { return m.term(t, around+1, binders) })
	f.Parts = each(f.Parts, func(p Formula) Formula { return m.formula(p, around+1, inside) })
	return f
}

func (m *maker) term(t Term, around, binders int) Term {
	if other, ok := m.change(t, binders); ok {
		return m.copied(other, around)
	}
	m.enter(around)
	t.Args = each(t.Args, func(a Term) Term { return m.term(a, around+1, binders) })
	return t
}

// copied returns a term in which nothing changes.
func (m *maker) copied(t Term, around int) Term {
	m.enter(around)
	t.Args = each(t.Args, func(a Term) Term { return m.copied(a, around+1) })
	return t
}

// made returns a formula with other terms; false, if it would not be well-formed.
func made(f Formula, change func(t Term, binders int) (Term, bool)) (result Formula, ok bool) {
	defer func() {
		if recover() != nil {
			result, ok = Formula{}, false
		}
	}()
	m := maker{change: change}
	return m.formula(f, 0, 0), true
}

// instance returns a formula that has one more binder around it, with a term for the variable of this.
func instance(part Formula, t Term) (Formula, bool) {
	return made(part, func(x Term, binders int) (Term, bool) { return t, x.Name == "" && x.Index == binders })
}

// abstract returns a formula of a kind, with the variable of the new binder for a parameter.
func abstract(kind int, f Formula, name string) (Formula, bool) {
	return made(bound{kind, f}.formula(), func(x Term, binders int) (Term, bool) {
		return Term{Index: binders - 1}, x.isParameter() && x.Name == name
	})
}

// replaced returns a formula with a term for a parameter.
func replaced(f Formula, name string, t Term) (Formula, bool) {
	return made(f, func(x Term, _ int) (Term, bool) { return t, x.isParameter() && x.Name == name })
}

// copied returns a well-formed formula as new memory.
func copied(f Formula) Formula {
	f, _ = made(f, func(Term, int) (Term, bool) { return Term{}, false })
	return f
}
