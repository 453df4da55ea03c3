package carry

import (
	"slices"

	"apodixis/api"
	"apodixis/meaning"
	"apodixis/natural"
)

// instance is what fills the holes of an axiom's form.
type instance struct {
	p, q, r natural.Formula
	x, y, z natural.Term
}

// derivations returns how the axioms of a logic are derived.
func derivations() map[int]func(instance) natural.Derivation {
	return map[int]func(instance) natural.Derivation{
		simp:    instance.simp,
		frege:   instance.frege,
		transp:  instance.transp,
		dist:    instance.dist,
		vacuous: instance.vacuous,
		spec:    instance.spec,
		refl:    instance.refl,
		eucl:    instance.eucl,
	}
}

// axiom returns the derivation of an instance of an axiom of the logic.
func (r *room) axiom(field int, m meanings) (natural.Derivation, api.Errno) {
	of := func(hole byte) meaning.Meaning { return m[r.holes[field][hole]] }
	n := instance{of('p').Formula, of('q').Formula, of('r').Formula, of('x').Term, of('y').Term, of('z').Term}
	if field == vacuous && slices.Contains(natural.Free(n.p), n.x.Name) {
		return natural.Derivation{}, api.ErrApart
	}
	f := r.frames[*r.logic.assertions()[field]]
	if _, e := r.formulaOf(f.Text, m); e != api.OK {
		return natural.Derivation{}, e
	}
	return derivations()[field](n), api.OK
}

// under returns a derivation under a further assumption; use is an assumption, counted from the last one, and apply applies an implication.
func under(f natural.Formula, d natural.Derivation) natural.Derivation {
	return natural.Derivation{Rule: natural.ImpliesIn, Formula: f, Kids: []natural.Derivation{d}}
}

func use(n int) natural.Derivation { return natural.Derivation{Rule: natural.Assume, Index: n} }

func apply(d, e natural.Derivation) natural.Derivation {
	return natural.Derivation{Rule: natural.ImpliesOut, Kids: []natural.Derivation{d, e}}
}

// allIn binds a parameter, allOut puts one in the place of what is bound.
func allIn(x natural.Term, d natural.Derivation) natural.Derivation {
	return natural.Derivation{Rule: natural.AllIn, Name: x.Name, Kids: []natural.Derivation{d}}
}

func allOut(x natural.Term, d natural.Derivation) natural.Derivation {
	return natural.Derivation{Rule: natural.AllOut, Term: x, Kids: []natural.Derivation{d}}
}

// forAll returns a formula bound over the individual of an instance.
func (n instance) forAll(f natural.Formula) natural.Formula { return quantified(natural.All, n.x, f) }

func (n instance) simp() natural.Derivation { return under(n.p, under(n.q, use(1))) }

func (n instance) frege() natural.Derivation {
	inner := apply(apply(use(2), use(0)), apply(use(1), use(0)))
	return under(meaning.Implies(n.p, n.q, n.r), under(meaning.Implies(n.p, n.q), under(n.p, inner)))
}

func (n instance) transp() natural.Derivation {
	classic := natural.Derivation{Rule: natural.Classic, Formula: n.p, Kids: []natural.Derivation{apply(apply(use(2), use(0)), use(1))}}
	return under(meaning.Implies(meaning.Not(n.p), meaning.Not(n.q)), under(n.q, classic))
}

func (n instance) dist() natural.Derivation {
	inner := apply(allOut(n.x, use(1)), allOut(n.x, use(0)))
	return under(n.forAll(meaning.Implies(n.p, n.q)), under(n.forAll(n.p), allIn(n.x, inner)))
}

func (n instance) vacuous() natural.Derivation { return under(n.p, allIn(n.x, use(0))) }

func (n instance) spec() natural.Derivation { return under(n.forAll(n.p), allOut(n.x, use(0))) }

func (n instance) refl() natural.Derivation {
	return natural.Derivation{Rule: natural.Reflexive, Term: n.x}
}

func (n instance) eucl() natural.Derivation {
	template := meaning.Equal(natural.Term{}, n.z)
	replace := natural.Derivation{Rule: natural.Replace, Formula: template, Kids: []natural.Derivation{use(1), use(0)}}
	return under(meaning.Equal(n.x, n.y), under(meaning.Equal(n.x, n.z), replace))
}
