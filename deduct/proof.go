package deduct

import (
	"slices"

	"apodixis/api"
	"apodixis/book"
	"apodixis/carry"
	"apodixis/fault"
	"apodixis/frame"
	"apodixis/graph"
	"apodixis/meaning"
	"apodixis/natural"
)

// prover makes the proof of the theorem of a room: of each line the tree and the step.
type prover struct {
	*room
	premises []natural.Formula // the translations of the essential hypotheses
	steps    *book.Steps
	trees    []api.Tree
	place    []int
}

// proof returns the proof that a derivation gives, if its verdict is OK.
func (r *room) proof(d natural.Derivation) (api.Proof, api.Errno) {
	p := prover{room: r, steps: book.NewSteps()}
	e := fault.Guard(ErrFragment, func() {
		for _, x := range trim(p.lines(d)) {
			p.line(x)
		}
	})
	if e != api.OK {
		return api.Proof{}, e
	}
	result, ok := p.steps.Proof(p.place[len(p.place)-1])
	if !ok {
		return api.Proof{}, api.ErrLarge
	}
	if _, v, e := graph.Texts(r.book.Database, r.number, result); e != api.OK || v.Code != api.OK {
		return api.Proof{}, ErrFragment
	}
	return result, api.OK
}

// translated returns the translation of a formula of the theorem.
func (p *prover) translated(text []string) natural.Formula {
	f, e := carry.Formula(p.book.Database, p.logic, p.number, text)
	fault.Pass(e)
	return f
}

// lines returns the lines of a derivation of the theorem.
func (p *prover) lines(d natural.Derivation) []Line {
	for _, h := range book.Premises(p.frame) {
		p.premises = append(p.premises, p.translated(h.Text))
	}
	goal := p.translated(p.frame.Text)
	var hyps []natural.Formula
	for _, f := range p.premises {
		g, e := carry.Closed(p.book.Database, p.logic, f)
		fault.Pass(e)
		hyps = append(hyps, g)
	}
	lines, e := Lines(p.logic, hyps, d)
	fault.Pass(e)
	fault.Require(natural.Same(lines[len(lines)-1].Formula, goal), ErrTarget)
	return lines
}

// line makes the step of a line.
func (p *prover) line(x Line) {
	t, step := p.formula(x.Formula), 0
	if x.Label == "" {
		step = p.hypothesis(x.From[0])
	} else {
		step = p.assertion(x, t)
	}
	p.trees, p.place = append(p.trees, t), append(p.place, step)
}

// hypothesis returns the step of a closed essential hypothesis.
func (p *prover) hypothesis(n int) int {
	h := book.Premises(p.frame)[n]
	t, step := p.parsed(h.Text), p.steps.Add(h.Label, nil)
	for _, name := range slices.Backward(meaning.Closing(p.book.Database, p.premises[n])) {
		fault.Require(p.logic.Gen != "", ErrFragment)
		all := p.node(p.logic.All, api.Tree{Label: p.book.LabelOf(name)}, t)
		step = p.apply(p.logic.Gen, all, []api.Tree{t}, []int{step})
		t = all
	}
	return step
}

// parsed returns the tree of a formula of an assertion.
func (p *prover) parsed(text []string) api.Tree {
	t, e := p.book.Tree(text)
	fault.Require(e == api.OK, ErrFragment)
	return t
}

// assertion returns the step of another line, whose formula has a tree.
func (p *prover) assertion(x Line, t api.Tree) int {
	var trees []api.Tree
	var steps []int
	for _, from := range x.From {
		trees, steps = append(trees, p.trees[from]), append(steps, p.place[from])
	}
	if x.Label == p.logic.Mp && !meaning.MinorFirst(p.book, p.frameOf(x.Label)) {
		slices.Reverse(trees)
		slices.Reverse(steps)
	}
	return p.apply(x.Label, t, trees, steps)
}

// frameOf returns the assertion with a label of the logic.
func (p *prover) frameOf(label string) api.Frame {
	return p.book.Database.Frames[frame.Find(p.book.Database, label)]
}

// apply returns the step of an assertion that proves a tree, from the trees and the steps of its essential hypotheses.
func (p *prover) apply(label string, t api.Tree, trees []api.Tree, steps []int) int {
	f := p.frameOf(label)
	m := map[string]api.Tree{}
	p.match(p.parsed(f.Text), t, m)
	for n, h := range book.Premises(f) {
		p.match(p.parsed(h.Text), trees[n], m)
	}
	var args []int
	for _, h := range f.Hyps {
		if h.Floating {
			args = append(args, p.grow(m[h.Label]))
			continue
		}
		args, steps = append(args, steps[0]), steps[1:]
	}
	return p.steps.Add(label, args)
}

// match notes the first tree that each variable of a pattern is matched with.
func (p *prover) match(pattern, t api.Tree, m map[string]api.Tree) {
	if p.book.IsVariable(pattern.Label) {
		if _, ok := m[pattern.Label]; !ok {
			m[pattern.Label] = t
		}
		return
	}
	fault.Require(pattern.Label == t.Label, ErrFragment)
	for n, k := range pattern.Kids {
		p.match(k, t.Kids[n], m)
	}
}

// grow returns the step of a tree.
func (p *prover) grow(t api.Tree) int {
	var args []int
	for _, k := range t.Kids {
		args = append(args, p.grow(k))
	}
	return p.steps.Add(t.Label, args)
}
