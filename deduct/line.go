package deduct

import (
	"slices"

	"apodixis/api"
	"apodixis/carry"
	"apodixis/meaning"
	"apodixis/natural"
)

// Fields of a logic, in the order in which they give labels their meaning.
const (
	hypothesis = iota
	mp
	gen
	simp
	frege
	transp
	dist
	vacuous
	spec
	refl
	eucl
	count // how many there are
)

// fields are the labels of a logic; a hypothesis has none.
type fields [count]string

func fieldsOf(l carry.Logic) fields {
	return fields{
		mp: l.Mp, gen: l.Gen, simp: l.Simp, frege: l.Frege, transp: l.Transp,
		dist: l.Dist, vacuous: l.Vacuous, spec: l.Spec, refl: l.Refl, eucl: l.Eucl,
	}
}

// of returns the field that a label means, or -1.
func (l *fields) of(label string) int { return slices.Index(l[:], label) }

// shapes returns the formulas of axioms: p, q and r stand for formulas, x, y and z for terms, each sign ahead of its parts. (What stands behind A has one more binder around it.) The other fields have none.
func shapes() [count]string {
	return [count]string{
		simp: ">p>qp", frege: ">>p>qr>>pq>pr", transp: ">>~p~q>qp",
		dist: ">A>pq>ApAq", vacuous: ">pAp", refl: "=xx", eucl: ">=xy>=xz=yz",
	}
}

// fits reports whether a well-formed formula has a shape.
func fits(shape string, f natural.Formula) bool {
	holes := map[byte]natural.Formula{}
	var match func(f natural.Formula) bool
	match = func(f natural.Formula) bool {
		sign := shape[0]
		shape = shape[1:]
		switch sign {
		case '>':
			return f.Kind == natural.Implies && match(f.Parts[0]) && match(f.Parts[1])
		case '~':
			return f.Kind == natural.Implies && match(f.Parts[0]) && f.Parts[1].Kind == natural.False
		case 'A':
			return f.Kind == natural.All && match(f.Parts[0])
		case '=':
			return f.Kind == natural.Equal && match(termed(f.Terms[0])) && match(termed(f.Terms[1]))
		}
		other, ok := holes[sign]
		holes[sign] = f
		return !ok || natural.Same(f, other)
	}
	return match(f)
}

// termed returns a term as a formula, for holes.
func termed(t natural.Term) natural.Formula { return meaning.Equal(t, t) }

// built returns the formula of a shape, with formulas for p, q and r, or those of terms for x, y and z.
func built(shape string, parts ...natural.Formula) natural.Formula {
	var build func() natural.Formula
	build = func() natural.Formula {
		sign := shape[0]
		shape = shape[1:]
		switch sign {
		case '>':
			first := build()
			return meaning.Implies(first, build())
		case '~':
			return meaning.Not(build())
		case 'A':
			return natural.Formula{Kind: natural.All, Parts: []natural.Formula{build()}}
		case '=':
			left := build().Terms[0]
			right := build().Terms[0]
			return meaning.Equal(left, right)
		case 'p', 'q', 'r':
			return parts[sign-'p']
		}
		return parts[sign-'x']
	}
	return build()
}

// follows reports whether a line follows from those ahead of it, and from hypotheses.
func (l *fields) follows(x Line, ahead []Line, hyps []natural.Formula) bool {
	if natural.Well(x.Formula) != api.OK {
		return false
	}
	field := l.of(x.Label)
	if field < 0 || field != gen && field != spec && x.Name != "" {
		return false
	}
	limit := len(ahead)
	if field == hypothesis {
		limit = len(hyps)
	}
	isOther := func(from int) bool { return from < 0 || from >= limit }
	if len(x.From) != premises(field) || slices.ContainsFunc(x.From, isOther) {
		return false
	}
	switch field {
	case hypothesis:
		return natural.Same(x.Formula, hyps[x.From[0]])
	case mp:
		return natural.Same(meaning.Implies(ahead[x.From[0]].Formula, x.Formula), ahead[x.From[1]].Formula)
	case gen:
		return isAll(x.Formula, ahead[x.From[0]].Formula, x.Name)
	case spec:
		return x.Formula.Kind == natural.Implies && isAll(x.Formula.Parts[0], x.Formula.Parts[1], x.Name)
	}
	return fits(shapes()[field], x.Formula)
}

// premises returns how many numbers the From of a field's lines has.
func premises(field int) int {
	switch field {
	case hypothesis, gen:
		return 1
	case mp:
		return 2
	}
	return 0
}

// isAll reports whether a formula is that of all that a name can be in another one.
func isAll(f, part natural.Formula, name string) bool {
	g, e := natural.Abstract(natural.All, part, name)
	return e == api.OK && natural.Same(f, g)
}
