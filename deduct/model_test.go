package deduct

import (
	"slices"

	"apodixis/api"
	"apodixis/carry"
	"apodixis/natural"
)

// Formulas of the chapter.
func imp(a, b natural.Formula) natural.Formula {
	return natural.Formula{Kind: natural.Implies, Parts: []natural.Formula{a, b}}
}

func not(a natural.Formula) natural.Formula { return imp(a, natural.Formula{Kind: natural.False}) }

func all(a natural.Formula) natural.Formula {
	return natural.Formula{Kind: natural.All, Parts: []natural.Formula{a}}
}

func equal(a, b natural.Term) natural.Formula {
	return natural.Formula{Kind: natural.Equal, Terms: []natural.Term{a, b}}
}

func simpOf(a, b natural.Formula) natural.Formula { return imp(a, imp(b, a)) }

func fregeOf(a, b, c natural.Formula) natural.Formula {
	return imp(imp(a, imp(b, c)), imp(imp(a, b), imp(a, c)))
}

// modelWriter appends lines as the chapter says, and panics with the first error.
type modelWriter struct {
	l     carry.Logic
	lines []Line
}

// labelled returns the label of a field, if it means this one.
func labelled(l carry.Logic, field string) (string, bool) {
	order := []struct{ name, label string }{
		{"Mp", l.Mp}, {"Gen", l.Gen}, {"Simp", l.Simp}, {"Frege", l.Frege}, {"Transp", l.Transp},
		{"Dist", l.Dist}, {"Vacuous", l.Vacuous}, {"Spec", l.Spec}, {"Refl", l.Refl}, {"Eucl", l.Eucl},
	}
	label := ""
	for _, x := range order {
		if x.name == field {
			label = x.label
		}
	}
	for _, x := range order {
		if x.label == label {
			return label, label != "" && x.name == field
		}
	}
	return "", false
}

func (w *modelWriter) add(field string, f natural.Formula, name string, from ...int) int {
	label, ok := labelled(w.l, field)
	if !ok {
		panic(ErrFragment)
	}
	if natural.Well(f) != api.OK || len(w.lines) >= 2000 {
		panic(api.ErrLarge)
	}
	w.lines = append(w.lines, Line{Label: label, Formula: f, From: from, Name: name})
	return len(w.lines) - 1
}

func (w *modelWriter) mp(a, b int) int { return w.add("Mp", w.lines[b].Formula.Parts[1], "", a, b) }

// same appends the five lines of H -> H.
func (w *modelWriter) same(h natural.Formula) int {
	a := w.add("Frege", fregeOf(h, imp(h, h), h), "")
	b := w.add("Simp", simpOf(h, imp(h, h)), "")
	c := w.mp(b, a)
	d := w.add("Simp", simpOf(h, h), "")
	return w.mp(d, c)
}

// in appends that X implies the line ahead.
func (w *modelWriter) in(x natural.Formula) int {
	last := len(w.lines) - 1
	s := w.add("Simp", simpOf(w.lines[last].Formula, x), "")
	return w.mp(last, s)
}

// caught returns the error that work panics with.
func caught(work func() []Line) (l []Line, e api.Errno) {
	defer func() {
		if code, ok := recover().(api.Errno); ok {
			l, e = nil, code
		}
	}()
	return work(), api.OK
}

// liftModel returns what Lift returns.
func liftModel(l carry.Logic, given []Line, hyps []natural.Formula) ([]Line, api.Errno) {
	if _, e := Check(l, given, hyps); e != api.OK {
		return nil, e
	}
	if len(hyps) == 0 {
		return nil, api.ErrArg
	}
	h := hyps[len(hyps)-1]
	w := &modelWriter{l: l}
	needs := func(n int) bool { return false }
	needs = func(n int) bool {
		if given[n].Label == "" {
			return given[n].From[0] == len(hyps)-1
		}
		return slices.ContainsFunc(given[n].From, func(k int) bool { return needs(k) })
	}
	known := make([]int, len(given)) // 1 that H is needed, -1 that it is not
	inner := needs
	needs = func(n int) bool {
		if known[n] == 0 {
			known[n] = -1
			if inner(n) {
				known[n] = 1
			}
		}
		return known[n] == 1
	}
	plain, over := map[int]int{}, map[int]int{}
	var p, lifted func(n int) int
	p = func(n int) int {
		if at, ok := plain[n]; ok {
			return at
		}
		x := given[n]
		if x.Label != "" {
			var from []int
			for _, k := range x.From {
				from = append(from, p(k))
			}
			x.From = from
		}
		if len(w.lines) >= 2000 {
			panic(api.ErrLarge)
		}
		w.lines = append(w.lines, x)
		plain[n] = len(w.lines) - 1
		return plain[n]
	}
	mp, _ := labelled(l, "Mp")
	lifted = func(n int) int {
		if at, ok := over[n]; ok {
			return at
		}
		x := given[n]
		isMp := x.Label != "" && x.Label == mp
		switch {
		case x.Label == "" && x.From[0] == len(hyps)-1:
			over[n] = w.same(h)
		case !needs(n) && !(isMp && x.Formula.Kind == natural.False):
			a := p(n)
			over[n] = w.mp(a, w.add("Simp", simpOf(x.Formula, h), ""))
		case isMp:
			j := lifted(x.From[1])
			i := lifted(x.From[0])
			f := w.add("Frege", fregeOf(h, given[x.From[0]].Formula, x.Formula), "")
			m := w.mp(j, f)
			over[n] = w.mp(i, m)
		default:
			if slices.Contains(natural.Free(h), x.Name) {
				panic(ErrFragment)
			}
			i := lifted(x.From[0])
			allH, _ := natural.Abstract(natural.All, h, x.Name)
			f := natural.Formula{Kind: natural.All, Parts: []natural.Formula{imp(allH.Parts[0], x.Formula.Parts[0])}}
			if allH.Kind == 0 { // too deep, as all of the others are
				f = natural.Formula{}
			}
			g := w.add("Gen", f, x.Name, i)
			d := w.add("Dist", imp(f, imp(allH, x.Formula)), "")
			w.mp(g, d)
			m := w.in(h)
			k := w.add("Frege", fregeOf(h, allH, x.Formula), "")
			last := w.mp(m, k)
			v := w.add("Vacuous", imp(h, allH), "")
			over[n] = w.mp(v, last)
		}
		return over[n]
	}
	return caught(func() []Line {
		lifted(len(given) - 1)
		return w.lines
	})
}

// doubled returns the lines N(C).
func doubled(l carry.Logic, c natural.Formula) []Line {
	w := &modelWriter{l: l}
	n := not(c)
	m := not(n)
	a := w.add("Simp", simpOf(m, not(not(m))), "")
	w.add("Transp", imp(imp(not(not(m)), m), imp(n, not(m))), "")
	last := w.in(m)
	f := w.add("Frege", fregeOf(m, imp(not(not(m)), m), imp(n, not(m))), "")
	last = w.mp(last, f)
	sixth := w.mp(a, last)
	w.add("Transp", imp(imp(n, not(m)), imp(m, c)), "")
	last = w.in(m)
	f = w.add("Frege", fregeOf(m, imp(n, not(m)), imp(m, c)), "")
	last = w.mp(last, f)
	last = w.mp(sixth, last)
	f = w.add("Frege", fregeOf(m, m, c), "")
	before := w.mp(last, f)
	last = w.same(m)
	w.mp(last, before)
	return w.lines
}

// joined puts lines behind others.
func joined(a, b []Line) []Line {
	if len(a)+len(b) > 2000 {
		panic(api.ErrLarge)
	}
	result := slices.Clone(a)
	for _, x := range b {
		if x.Label != "" {
			x.From = slices.Clone(x.From)
			for k := range x.From {
				x.From[k] += len(a)
			}
		}
		result = append(result, x)
	}
	return result
}

// linesModel returns what Lines returns.
func linesModel(l carry.Logic, assumptions []natural.Formula, d natural.Derivation) ([]Line, api.Errno) {
	if _, _, e := natural.Check(nil, assumptions, d); e != api.OK {
		return nil, e
	}
	return caught(func() []Line { return nodeModel(l, assumptions, d) })
}

// nodeModel returns the lines of a node.
func nodeModel(l carry.Logic, open []natural.Formula, d natural.Derivation) []Line {
	with := func(f natural.Formula) []natural.Formula { return append(slices.Clone(open), f) }
	lift := func(x []Line, f natural.Formula) []Line {
		y, e := Lift(l, x, with(f))
		if e != api.OK {
			panic(e)
		}
		return y
	}
	end := func(x []Line) natural.Formula { return x[len(x)-1].Formula }
	w := &modelWriter{l: l}
	switch d.Rule {
	case natural.Assume:
		n := len(open) - 1 - d.Index
		w.lines = []Line{{Formula: open[n], From: []int{n}}}
	case natural.ImpliesIn:
		w.lines = lift(nodeModel(l, with(d.Formula), d.Kids[0]), d.Formula)
	case natural.ImpliesOut:
		a := nodeModel(l, open, d.Kids[1])
		w.lines = joined(a, nodeModel(l, open, d.Kids[0]))
		w.mp(len(a)-1, len(w.lines)-1)
	case natural.FalseOut, natural.Classic:
		inner := open
		if d.Rule == natural.Classic {
			inner = with(not(d.Formula))
		}
		a := lift(nodeModel(l, inner, d.Kids[0]), not(d.Formula))
		w.lines = joined(a, doubled(l, d.Formula))
		w.mp(len(a)-1, len(w.lines)-1)
	case natural.AllIn:
		w.lines = nodeModel(l, open, d.Kids[0])
		f, _ := natural.Abstract(natural.All, end(w.lines), d.Name)
		w.add("Gen", f, d.Name, len(w.lines)-1)
	case natural.AllOut:
		w.lines = nodeModel(l, open, d.Kids[0])
		f := end(w.lines)
		if len(d.Term.Args) > 0 || slices.Contains(natural.Free(f), d.Term.Name) {
			panic(ErrFragment)
		}
		g, _ := natural.Instance(f, d.Term)
		s := w.add("Spec", imp(f, g), d.Term.Name)
		w.mp(s-1, s)
	case natural.Reflexive:
		w.add("Refl", equal(d.Term, d.Term), "")
	case natural.Replace:
		f := d.Formula
		if f.Kind != natural.Equal || f.Terms[0].Name != "" || natural.Well(natural.Formula{Kind: natural.Atom, Name: "p", Terms: f.Terms[1:]}) == natural.ErrBound {
			panic(ErrFragment)
		}
		b := nodeModel(l, open, d.Kids[1])
		w.lines = joined(b, nodeModel(l, open, d.Kids[0]))
		a := len(w.lines) - 1
		s, t, u := end(w.lines).Terms[0], end(w.lines).Terms[1], f.Terms[1]
		e := w.add("Eucl", imp(equal(s, t), imp(equal(s, u), equal(t, u))), "")
		m := w.mp(a, e)
		w.mp(len(b)-1, m)
	default:
		panic(ErrFragment)
	}
	return w.lines
}
