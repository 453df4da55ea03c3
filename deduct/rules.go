package deduct

import (
	"slices"

	"apodixis/carry"
	"apodixis/fault"
	"apodixis/meaning"
	"apodixis/natural"
)

// translator turns derivations into lines.
type translator struct {
	logic  carry.Logic
	fields fields
	rules  map[int]func(*translator, natural.Derivation, []natural.Formula) []Line
}

// rules returns the translations of rules; the others have none.
func rules() map[int]func(*translator, natural.Derivation, []natural.Formula) []Line {
	return map[int]func(*translator, natural.Derivation, []natural.Formula) []Line{
		natural.Assume:     (*translator).assume,
		natural.ImpliesIn:  (*translator).impliesIn,
		natural.ImpliesOut: (*translator).impliesOut,
		natural.FalseOut:   (*translator).falseOut,
		natural.Classic:    (*translator).classic,
		natural.AllIn:      (*translator).allIn,
		natural.AllOut:     (*translator).allOut,
		natural.Reflexive:  (*translator).reflexive,
		natural.Replace:    (*translator).replace,
	}
}

// lines returns the lines of a node that the kernel accepts, where the assumptions hyps are open.
func (t *translator) lines(d natural.Derivation, hyps []natural.Formula) []Line {
	rule, ok := t.rules[d.Rule]
	fault.Require(ok, ErrFragment)
	return rule(t, d, hyps)
}

// writer returns one without lines.
func (t *translator) writer() *writer { return &writer{fields: t.fields} }

// lifted returns the lines of a Kid, lifted over a further hypothesis, which is open in the Kid, or not.
func (t *translator) lifted(kid natural.Derivation, hyps []natural.Formula, h natural.Formula, isOpen bool) []Line {
	further := append(slices.Clip(hyps), h)
	if isOpen {
		hyps = further
	}
	lines, e := Lift(t.logic, t.lines(kid, hyps), further)
	fault.Pass(e)
	return lines
}

func (t *translator) assume(d natural.Derivation, hyps []natural.Formula) []Line {
	n := len(hyps) - 1 - d.Index
	return []Line{{Formula: hyps[n], From: []int{n}}}
}

func (t *translator) impliesIn(d natural.Derivation, hyps []natural.Formula) []Line {
	return t.lifted(d.Kids[0], hyps, d.Formula, true)
}

func (t *translator) impliesOut(d natural.Derivation, hyps []natural.Formula) []Line {
	w := t.writer()
	minor := w.put(t.lines(d.Kids[1], hyps))
	major := w.put(t.lines(d.Kids[0], hyps))
	w.mp(minor, major)
	return w.lines
}

func (t *translator) falseOut(d natural.Derivation, hyps []natural.Formula) []Line {
	return t.contradiction(d, hyps, false)
}

func (t *translator) classic(d natural.Derivation, hyps []natural.Formula) []Line {
	return t.contradiction(d, hyps, true)
}

// contradiction returns the lines of a formula from those of False, for which its negation is open, or not.
func (t *translator) contradiction(d natural.Derivation, hyps []natural.Formula, isOpen bool) []Line {
	w, other := t.writer(), t.writer()
	minor := w.put(t.lifted(d.Kids[0], hyps, meaning.Not(d.Formula), isOpen))
	other.double(d.Formula)
	w.mp(minor, w.put(other.lines))
	return w.lines
}

func (t *translator) allIn(d natural.Derivation, hyps []natural.Formula) []Line {
	w := t.writer()
	last := w.put(t.lines(d.Kids[0], hyps))
	f, _ := natural.Abstract(natural.All, w.lines[last].Formula, d.Name)
	w.add(gen, f, d.Name, last)
	return w.lines
}

func (t *translator) allOut(d natural.Derivation, hyps []natural.Formula) []Line {
	w := t.writer()
	last := w.put(t.lines(d.Kids[0], hyps))
	all, name := w.lines[last].Formula, d.Term.Name
	_, occurs := slices.BinarySearch(natural.Free(all), name)
	fault.Require(meaning.IsParameter(d.Term) && !occurs, ErrFragment)
	f, _ := natural.Instance(all, d.Term)
	w.mp(last, w.add(spec, meaning.Implies(all, f), name))
	return w.lines
}

func (t *translator) reflexive(d natural.Derivation, _ []natural.Formula) []Line {
	w := t.writer()
	w.axiom(refl, termed(d.Term))
	return w.lines
}

func (t *translator) replace(d natural.Derivation, hyps []natural.Formula) []Line {
	f := d.Formula
	fault.Require(f.Kind == natural.Equal && isBound(f.Terms[0]) && !hasBound(f.Terms[1]), ErrFragment)
	w := t.writer()
	second := w.put(t.lines(d.Kids[1], hyps))
	first := w.put(t.lines(d.Kids[0], hyps))
	sides := w.lines[first].Formula.Terms
	step := w.mp(first, w.axiom(eucl, termed(sides[0]), termed(sides[1]), termed(f.Terms[1])))
	w.mp(second, step)
	return w.lines
}

// isBound reports whether a term is a bound variable, hasBound whether one occurs in it.
func isBound(t natural.Term) bool { return t.Name == "" }

func hasBound(t natural.Term) bool { return isBound(t) || slices.ContainsFunc(t.Args, hasBound) }
