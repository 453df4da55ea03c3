package graph

import (
	"slices"

	"apodixis/api"
	"apodixis/frame"
	"apodixis/subst"
	"apodixis/verify"
)

// find returns the error of a database and of the number of an assertion.
func find(db api.Database, i int) api.Errno {
	if e := frame.Check(db); e != api.OK {
		return e
	}
	if i < 0 || i >= len(db.Frames) {
		return api.ErrNone
	}
	return api.OK
}

// Check returns the error of a proof as a graph, for an assertion of a database.
func Check(db api.Database, i int, p api.Proof) api.Errno {
	if e := find(db, i); e != api.OK {
		return e
	}
	return form(p)
}

// Of returns the graph of a theorem's own proof.
func Of(db api.Database, i int) (api.Proof, api.Errno) {
	v, e := verify.Theorem(db, i)
	if e != api.OK {
		return api.Proof{}, e
	}
	f := db.Frames[i]
	if !f.Theorem || v.Code != api.OK {
		return api.Proof{}, api.ErrState
	}
	b := builder{db: db, theorem: f}
	labels, letters, e := verify.Letters(f.Proof)
	if e != api.OK {
		for _, label := range f.Proof { // a normal proof, as it is right
			b.step(label)
		}
		return b.proof, api.OK
	}
	var listed []string
	for _, h := range f.Hyps {
		listed = append(listed, h.Label)
	}
	listed = append(listed, labels...)
	for _, x := range letters {
		if x.Number > len(listed) {
			b.stack = append(b.stack, b.tags[x.Number-len(listed)-1])
		} else {
			b.step(listed[x.Number-1])
		}
		if x.Tagged {
			b.tags = append(b.tags, b.stack[len(b.stack)-1])
		}
	}
	return b.proof, api.OK
}

// builder makes the graph of a proof that is right; stack and tags have numbers of steps.
type builder struct {
	db          api.Database
	theorem     api.Frame
	proof       api.Proof
	stack, tags []int
}

// step adds a step, whose Args are taken from the stack.
func (b *builder) step(label string) {
	rest := len(b.stack)
	if _, ok := frame.Hyp(b.theorem, label); !ok {
		rest -= len(b.db.Frames[frame.Find(b.db, label)].Hyps)
	}
	number := len(b.proof.Steps)
	b.proof.Steps = append(b.proof.Steps, api.Step{Label: label, Args: slices.Clone(b.stack[rest:])})
	b.stack = append(b.stack[:rest], number)
}

// Labels returns the normal proof of a graph.
func Labels(db api.Database, i int, p api.Proof) ([]string, api.Errno) {
	if e := Check(db, i, p); e != api.OK {
		return nil, e
	}
	p, e := Expand(p, api.MaxSteps)
	if e != api.OK {
		return nil, e
	}
	var l []string
	for _, x := range p.Steps {
		l = append(l, x.Label)
	}
	return l, api.OK
}

// Texts returns the formulas of the steps of a graph, up to the first error.
func Texts(db api.Database, i int, p api.Proof) ([][]string, api.Verdict, api.Errno) {
	if e := Check(db, i, p); e != api.OK {
		return nil, api.Verdict{}, e
	}
	r := newReader(db, i)
	var l [][]string
	for s, x := range p.Steps {
		var entries [][]string
		for _, a := range x.Args {
			entries = append(entries, l[a])
		}
		text, e := r.text(x.Label, entries)
		if e != api.OK {
			return l, api.Verdict{Code: e, Step: s}, api.OK
		}
		l = append(l, text)
	}
	if !slices.Equal(l[len(l)-1], r.theorem.Text) {
		return l, api.Verdict{Code: api.ErrProves, Step: len(l)}, api.OK
	}
	return l, api.Verdict{}, api.OK
}

// reader finds what steps of a theorem's proof give.
type reader struct {
	theorem   api.Frame
	ahead     map[string]api.Frame
	variables []string   // those that formulas of steps may have
	wide      []api.Pair // the permitted pairs of these
}

// newReader looks through the variables and the pairs of the database once, instead of step by step: only variables with an active floating hypothesis occur in steps.
func newReader(db api.Database, i int) reader {
	r := reader{theorem: db.Frames[i], ahead: map[string]api.Frame{}}
	for _, f := range db.Frames[:i] {
		r.ahead[f.Label] = f
	}
	active := map[string]bool{}
	for _, h := range slices.Concat(r.theorem.Hyps, r.theorem.Dummies) {
		if h.Floating {
			r.variables = append(r.variables, h.Text[1])
			active[h.Text[1]] = true
		}
	}
	for _, p := range r.theorem.Wide {
		if active[p.A] && active[p.B] {
			r.wide = append(r.wide, p)
		}
	}
	return r
}

// text returns the formula of a step with the given entries.
func (r reader) text(label string, entries [][]string) ([]string, api.Errno) {
	if label == "?" {
		return nil, api.ErrUnknown
	}
	if h, ok := frame.Hyp(r.theorem, label); ok {
		if len(entries) > 0 {
			return nil, api.ErrStack
		}
		return h.Text, api.OK
	}
	a, ok := r.ahead[label]
	switch {
	case !ok:
		return nil, api.ErrLabel
	case len(entries) != len(a.Hyps):
		return nil, api.ErrStack
	}
	l, e := binds(a, entries)
	if e != api.OK {
		return nil, e
	}
	for k, h := range a.Hyps {
		if !h.Floating && !subst.Fits(h.Text, l, entries[k]) {
			return nil, api.ErrMatch
		}
	}
	text, e := subst.Limited(a.Text, l, api.MaxFormula)
	if e != api.OK {
		return nil, e
	}
	if _, broken := subst.Broken(l, a.Apart, r.variables, r.wide); broken {
		return nil, api.ErrApart
	}
	return text, api.OK
}

// binds returns what the entries of the floating hypotheses make of an assertion's variables.
func binds(a api.Frame, entries [][]string) ([]api.Bind, api.Errno) {
	var l []api.Bind
	for k, h := range a.Hyps {
		if !h.Floating {
			continue
		}
		if entries[k][0] != h.Text[0] {
			return nil, api.ErrKind
		}
		l = append(l, api.Bind{Var: h.Text[1], Text: entries[k][1:]})
	}
	return l, api.OK
}
