package carry

import (
	"maps"
	"strconv"

	"apodixis/api"
	"apodixis/fault"
	"apodixis/frame"
	"apodixis/grammar"
	"apodixis/graph"
	"apodixis/meaning"
	"apodixis/verify"
)

// proof is the graph of a theorem's proof, with the numbers of nodes of its steps' trees (one more than api.MaxNodes for all greater ones).
type proof struct {
	steps []api.Step
	sizes []int
}

// proofOf returns the graph of a theorem, and leaves with the code of its verdict, if this is not OK.
func (c *carrier) proofOf(label string) proof {
	if p, ok := c.proofs[label]; ok {
		return p
	}
	db := c.room.book.Database
	n := frame.Find(db, label)
	g, e := graph.Of(db, n)
	if e != api.OK {
		v, _ := verify.Theorem(db, n)
		fault.Pass(v.Code)
		fault.Pass(e)
	}
	p := proof{steps: g.Steps}
	for _, x := range g.Steps {
		size := 1
		for _, a := range x.Args {
			size = min(size+p.sizes[a], api.MaxNodes+1)
		}
		p.sizes = append(p.sizes, size)
	}
	c.proofs[label] = p
	return p
}

// level is the proof of the theorem that is carried over, or, with an outer one, of one that is put in.
type level struct {
	proof
	frame    api.Frame
	meanings meanings
	trees    map[int]meaning.Meaning // what steps mean that are trees
	outer    *level
	premises map[string]int // the steps of outer that are its essential hypotheses
	key      string
	nodes    int // those of the derivation when it was put in
	named    int // and how many dummies had names
}

// meaning returns the translation of the tree that a step makes.
func (c *carrier) meaning(l *level, step int) meaning.Meaning {
	if m, ok := l.trees[step]; ok {
		return m
	}
	fault.Require(l.sizes[step] <= api.MaxNodes, api.ErrLarge)
	m, e := c.room.translation(l.tree(step), l.meanings)
	fault.Pass(e)
	l.trees[step] = m
	return m
}

// tree returns the tree that a step makes.
func (p proof) tree(step int) api.Tree {
	t := api.Tree{Label: p.steps[step].Label}
	for _, a := range p.steps[step].Args {
		t.Kids = append(t.Kids, p.tree(a))
	}
	return t
}

// passage says that the derivation of a theorem that is put in is that of one of its essential hypotheses, and how many dummies get names on the way.
type passage struct {
	premise string
	named   int
}

// put puts a theorem in: it returns its proof, and the last step of this. Where it is known already that this leads to an essential hypothesis, with nothing that is made ahead of it, the step of this is returned. (Otherwise theorems that are used twice by each other would take too long, though nothing is made of them.)
func (c *carrier) put(l *level, x api.Step, f api.Frame, m meanings) (*level, int) {
	p := c.proofOf(f.Label)
	inner := &level{proof: p, frame: f, meanings: maps.Clone(m), trees: map[int]meaning.Meaning{}, outer: l, premises: map[string]int{}, key: keyOf(f, m), nodes: c.nodes, named: c.named}
	for n, h := range f.Hyps {
		if !h.Floating {
			inner.premises[h.Label] = x.Args[n]
		}
	}
	if known, ok := c.passed[inner.key]; ok {
		c.named += known.named
		return l, inner.premises[known.premise]
	}
	for _, h := range f.Dummies {
		switch h.Text[0] {
		case grammar.Formula:
			inner.meanings[h.Label] = meaning.Meaning{Formula: meaning.False()}
		case c.room.logic.Set:
			inner.meanings[h.Label] = meaning.Meaning{Term: meaning.Parameter(c.name())}
		}
	}
	return inner, len(p.steps) - 1
}

// leave notes that the derivation of a theorem which was put in came to an essential hypothesis, if nothing was made since.
func (c *carrier) leave(l *level, premise string) {
	if l.nodes == c.nodes {
		c.passed[l.key] = passage{premise, c.named - l.named}
	}
}

// keyOf returns a text for a theorem with what its variables mean: with the same text the same translations are too large.
func keyOf(f api.Frame, m meanings) string {
	text := f.Label
	for _, h := range f.Hyps {
		if h.Floating {
			nodes, depth := m[h.Label].Size()
			text += " " + strconv.Itoa(nodes) + " " + strconv.Itoa(depth)
		}
	}
	return text
}
