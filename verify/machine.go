package verify

import (
	"slices"

	"apodixis/api"
	"apodixis/subst"
)

// Machine runs a proof step by step.
type Machine struct {
	theorem   api.Frame
	ahead     []api.Frame
	variables []string   // those that formulas on the stack may have
	wide      []api.Pair // the permitted pairs of these
	steps     []step
	at        int
	stack     [][]string // a formula may stand in it and among tags more than once, and is never written
	tags      [][]string
	verdict   api.Verdict
	known     bool
}

// New returns a machine for a proof of an assertion's formula.
func New(db api.Database, i int, proof []string) (*Machine, api.Errno) {
	if e := check(db, i); e != api.OK {
		return nil, e
	}
	kept := api.Database{Frames: copied(db.Frames[:i+1])}
	return load(kept, i, proof, places(kept)), api.OK
}

// copied returns frames that a machine may keep; their proofs are not needed.
func copied(frames []api.Frame) []api.Frame {
	hyps := func(l []api.Hyp) []api.Hyp {
		l = slices.Clone(l)
		for i := range l {
			l[i].Text = slices.Clone(l[i].Text)
		}
		return l
	}
	var l []api.Frame
	for _, f := range frames {
		f.Hyps, f.Dummies = hyps(f.Hyps), hyps(f.Dummies)
		f.Apart, f.Wide = slices.Clone(f.Apart), slices.Clone(f.Wide)
		f.Text, f.Proof = slices.Clone(f.Text), nil
		l = append(l, f)
	}
	return l
}

// load returns a machine for a proof; labels has the numbers of the assertions.
func load(db api.Database, i int, proof []string, labels map[string]int) *Machine {
	m := &Machine{theorem: db.Frames[i], ahead: db.Frames[:i]}
	m.observe()
	m.attempt(func() {
		p := planner{theorem: m.theorem, number: i, labels: labels}
		m.steps = p.steps(proof)
		if len(m.steps) == 0 {
			m.end()
		}
	})
	return m
}

// observe finds the variables with an active floating hypothesis. No others come onto the stack, so that no step needs to look at all those of the database, and at all pairs.
func (m *Machine) observe() {
	active := map[string]bool{}
	for _, l := range [2][]api.Hyp{m.theorem.Hyps, m.theorem.Dummies} {
		for _, h := range l {
			if h.Floating {
				m.variables = append(m.variables, h.Text[1])
				active[h.Text[1]] = true
			}
		}
	}
	for _, p := range m.theorem.Wide {
		if active[p.A] && active[p.B] {
			m.wide = append(m.wide, p)
		}
	}
}

// attempt does some work of the machine, and keeps the verdict that it finds.
func (m *Machine) attempt(work func()) bool {
	v, left := attempt(work)
	if left {
		m.verdict, m.known = v, true
	}
	return !left
}

// fail leaves with an error of the next step, or of the end.
func (m *Machine) fail(e api.Errno) { panic(found{Code: e, Step: m.at}) }

// run performs all steps that are left, and returns the verdict.
func (m *Machine) run() api.Verdict {
	m.attempt(func() {
	run:
		for {
			switch {
			case m.known:
				break run
			case m.at < len(m.steps):
				m.perform()
			default:
				m.end()
			}
		}
	})
	return m.verdict
}

// perform performs the next step; one with an error changes nothing.
func (m *Machine) perform() {
	do := [...]func(*Machine, step) (taken int, text []string){
		unknown:    (*Machine).unknown,
		other:      (*Machine).other,
		hypothesis: (*Machine).hypothesis,
		assertion:  (*Machine).assertion,
		tag:        (*Machine).tag,
	}
	s := m.steps[m.at]
	taken, text := do[s.kind](m, s)
	m.stack = append(m.stack[:len(m.stack)-taken], text)
	if s.tagged {
		m.tags = append(m.tags, text)
	}
	m.at++
}

func (m *Machine) unknown(step) (int, []string) {
	m.fail(api.ErrUnknown)
	return 0, nil
}

func (m *Machine) other(step) (int, []string) {
	m.fail(api.ErrLabel)
	return 0, nil
}

func (m *Machine) hypothesis(s step) (int, []string) { return 0, s.text }

func (m *Machine) tag(s step) (int, []string) { return 0, m.tags[s.number] }

func (m *Machine) assertion(s step) (int, []string) {
	a := m.ahead[s.number]
	rest := len(m.stack) - len(a.Hyps)
	if rest < 0 {
		m.fail(api.ErrStack)
	}
	entries := m.stack[rest:]
	l := m.bind(a, entries)
	for k, h := range a.Hyps {
		if !h.Floating && !subst.Fits(h.Text, l, entries[k]) {
			m.fail(api.ErrMatch)
		}
	}
	text, e := subst.Limited(a.Text, l, api.MaxFormula)
	if e != api.OK {
		m.fail(e)
	}
	if _, broken := subst.Broken(l, a.Apart, m.variables, m.wide); broken {
		m.fail(api.ErrApart)
	}
	return len(entries), text
}

// bind returns what the entries of the floating hypotheses make of an assertion's variables.
func (m *Machine) bind(a api.Frame, entries [][]string) []api.Bind {
	var l []api.Bind
	for k, h := range a.Hyps {
		if !h.Floating {
			continue
		}
		if entries[k][0] != h.Text[0] {
			m.fail(api.ErrKind)
		}
		l = append(l, api.Bind{Var: h.Text[1], Text: entries[k][1:]})
	}
	return l
}

// end finds the verdict behind all steps.
func (m *Machine) end() {
	switch {
	case len(m.stack) != 1:
		m.fail(api.ErrStack)
	case !slices.Equal(m.stack[0], m.theorem.Text):
		m.fail(api.ErrProves)
	}
	m.known = true
}

// Step performs the next step; false, if the verdict stands.
func (m *Machine) Step() bool {
	if m == nil || m.known || m.at == len(m.steps) || !m.attempt(m.perform) {
		return false
	}
	if m.at == len(m.steps) {
		m.attempt(m.end)
	}
	return true
}

// Stack returns the formulas on the stack, the lowest one first.
func (m *Machine) Stack() [][]string {
	if m == nil {
		return nil
	}
	var l [][]string
	for _, text := range m.stack {
		l = append(l, slices.Clone(text))
	}
	return l
}

// At returns the number of steps that were performed.
func (m *Machine) At() int {
	if m == nil {
		return 0
	}
	return m.at
}

// Verdict returns the verdict so far.
func (m *Machine) Verdict() api.Verdict {
	switch {
	case m == nil:
		return api.Verdict{}
	case !m.known:
		return api.Verdict{Code: api.ErrEnd, Step: m.at}
	}
	return m.verdict
}
