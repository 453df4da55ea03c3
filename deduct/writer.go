package deduct

import (
	"apodixis/api"
	"apodixis/fault"
	"apodixis/meaning"
	"apodixis/natural"
)

// writer appends lines; it leaves with an error where that cannot be.
type writer struct {
	fields fields
	lines  []Line
}

// push appends a line, and returns its number.
func (w *writer) push(x Line) int {
	fault.Require(len(w.lines) < api.MaxSteps, api.ErrLarge)
	w.lines = append(w.lines, x)
	return len(w.lines) - 1
}

// add appends a line of a field.
func (w *writer) add(field int, f natural.Formula, name string, from ...int) int {
	label := w.fields[field]
	fault.Require(label != "" && w.fields.of(label) == field, ErrFragment)
	fault.Require(natural.Well(f) == api.OK, api.ErrLarge)
	return w.push(Line{Label: label, Formula: f, From: from, Name: name})
}

// axiom appends a line of an axiom that has a shape.
func (w *writer) axiom(field int, parts ...natural.Formula) int {
	return w.add(field, built(shapes()[field], parts...), "")
}

// mp appends what follows from the lines of A and of A -> B.
func (w *writer) mp(minor, major int) int {
	return w.add(mp, w.lines[major].Formula.Parts[1], "", minor, major)
}

// behind appends that a formula implies a line.
func (w *writer) behind(f natural.Formula, line int) int {
	return w.mp(line, w.axiom(simp, w.lines[line].Formula, f))
}

// put appends a list of lines, which nothing else has, and returns the number of its last one.
func (w *writer) put(lines []Line) int {
	shift := len(w.lines)
	fault.Require(shift+len(lines) <= api.MaxSteps, api.ErrLarge)
	if shift == 0 {
		w.lines = lines
		return len(lines) - 1
	}
	for _, x := range lines {
		w.lines = append(w.lines, x.moved(func(from int) int { return from + shift }))
	}
	return len(w.lines) - 1
}

// same appends the lines of h -> h.
func (w *writer) same(h natural.Formula) int {
	hh := meaning.Implies(h, h)
	step := w.axiom(frege, h, hh, h)
	step = w.mp(w.axiom(simp, h, hh), step)
	return w.mp(w.axiom(simp, h, h), step)
}

// double appends the lines of ~~c -> c.
func (w *writer) double(c natural.Formula) int {
	n := meaning.Not(c)
	m := meaning.Not(n)
	nm := meaning.Not(m)
	mm := meaning.Not(nm)
	first := w.axiom(simp, m, mm)
	step := w.behind(m, w.axiom(transp, nm, n))
	step = w.mp(step, w.axiom(frege, m, meaning.Implies(mm, m), meaning.Implies(n, nm)))
	sixth := w.mp(first, step)
	step = w.behind(m, w.axiom(transp, c, m))
	step = w.mp(step, w.axiom(frege, m, meaning.Implies(n, nm), meaning.Implies(m, c)))
	step = w.mp(sixth, step)
	step = w.mp(step, w.axiom(frege, m, m, c))
	return w.mp(w.same(m), step)
}
