package frame

import (
	"slices"

	"apodixis/api"
	"apodixis/layout"
	"apodixis/token"
)

// use says in which frames a label stands, and of which hypothesis it is, if it is not that of a frame.
type use struct {
	first, last int
	isFrame     bool
	hyp         api.Hyp
}

// typing is the typecode of a variable, and the last frame with a floating hypothesis of it.
type typing struct {
	code string
	last int
}

// checker knows what the frames so far have.
type checker struct {
	symbols map[string]bool // whether it is a variable
	labels  map[string]use
	types   map[string]typing
	before  []api.Hyp // the essential hypotheses of the frame before
}

// Check returns the error of a database.
func Check(db api.Database) api.Errno {
	if len(db.Frames) > api.MaxFrames || len(db.Constants) > api.MaxTokens || len(db.Variables) > api.MaxTokens {
		return api.ErrFull
	}
	c := checker{symbols: map[string]bool{}, labels: map[string]use{}, types: map[string]typing{}}
	if e := c.declare(db.Constants, false); e != api.OK {
		return e
	}
	if e := c.declare(db.Variables, true); e != api.OK {
		return e
	}
	for i, f := range db.Frames {
		if e := c.frame(i, f, db.Variables); e != api.OK {
			return e
		}
	}
	return api.OK
}

func (c *checker) declare(symbols []string, variables bool) api.Errno {
	for _, s := range symbols {
		if !token.IsSymbol(s) {
			return api.ErrForm
		}
		if c.isSymbol(s) {
			return api.ErrTwice
		}
		c.symbols[s] = variables
	}
	return api.OK
}

func (c *checker) isSymbol(s string) bool {
	_, ok := c.symbols[s]
	return ok
}

// frame checks a frame, given those before.
func (c *checker) frame(i int, f api.Frame, variables []string) api.Errno {
	if !token.IsLabel(f.Label) {
		return api.ErrForm
	}
	if _, used := c.labels[f.Label]; used || c.isSymbol(f.Label) {
		return api.ErrTwice
	}
	c.labels[f.Label] = use{first: i, last: i, isFrame: true}
	if len(f.Hyps) > api.MaxHyps || len(f.Dummies) > api.MaxHyps {
		return api.ErrSize
	}
	for h, isDummy := range hyps(f) {
		if e := c.hyp(i, h, isDummy); e != api.OK {
			return e
		}
	}
	switch {
	case len(f.Text) == 0 || len(f.Text) > api.MaxSymbols:
		return api.ErrForm
	case !c.isFormula(f.Text):
		return api.ErrScope
	case !c.isFrame(f, mandatory(variables, f.Text, f.Hyps)):
		return ErrFrame
	case !isProof(f):
		return api.ErrForm
	case !c.isNested(i, f):
		return api.ErrOrder
	}
	c.before = essential(f)
	return api.OK
}

// hyp checks a hypothesis of the frame i, given those before.
func (c *checker) hyp(i int, h api.Hyp, isDummy bool) api.Errno {
	n := len(h.Text)
	if !token.IsLabel(h.Label) || !h.Floating && isDummy || h.Floating && n != 2 || n == 0 || n > api.MaxSymbols {
		return api.ErrForm
	}
	u, used := c.labels[h.Label]
	if c.isSymbol(h.Label) || used && (u.isFrame || u.last == i) {
		return api.ErrTwice
	}
	if !c.isFormula(h.Text) || h.Floating && !c.symbols[h.Text[1]] {
		return api.ErrScope
	}
	if h.Floating {
		t, typed := c.types[h.Text[1]]
		if typed && t.code != h.Text[0] {
			return api.ErrType
		}
		if typed && t.last == i {
			return api.ErrTwice
		}
		c.types[h.Text[1]] = typing{h.Text[0], i}
	}
	if used && !sameHyp(u.hyp, h) {
		return api.ErrTwice
	}
	if !used {
		u = use{first: i, hyp: h}
	}
	u.last = i
	c.labels[h.Label] = u
	return api.OK
}

// isFormula reports whether a text begins with a constant, and has symbols of the database only.
func (c *checker) isFormula(text []string) bool {
	for i, s := range text {
		variable, ok := c.symbols[s]
		if !ok || variable && i == 0 {
			return false
		}
	}
	return true
}

// isFrame reports whether the floating hypotheses and the pairs of a frame are those of an assertion with these mandatory variables.
func (c *checker) isFrame(f api.Frame, needed map[string]bool) bool {
	isNeeded := func(h api.Hyp) bool { return isFloatOf(h, needed) }
	for _, h := range f.Hyps {
		if h.Floating && !isNeeded(h) {
			return false
		}
	}
	if len(needed) > countFloats(f.Hyps, isNeeded) {
		return false
	}
	for i, p := range f.Wide {
		if p.A >= p.B || !c.symbols[p.A] || !c.symbols[p.B] {
			return false
		}
		if i > 0 && !isLess(f.Wide[i-1], p) {
			return false
		}
	}
	return slices.Equal(f.Apart, among(f.Wide, needed))
}

func isLess(p, q api.Pair) bool { return p.A < q.A || p.A == q.A && p.B < q.B }

// isProof reports whether the Proof of a frame is right, whose Label and Text are.
func isProof(f api.Frame) bool {
	if len(f.Proof) > api.MaxTokens {
		return false
	}
	s := api.Statement{Kind: api.Axiom, Label: f.Label, Text: f.Text, Proof: f.Proof}
	if f.Theorem {
		s.Kind = api.Theorem
	}
	_, e := layout.Words([]api.Statement{s})
	return e != api.ErrForm
}

// isNested reports whether the essential hypotheses of the frame i that the frame before does not have at its beginning are new.
func (c *checker) isNested(i int, f api.Frame) bool {
	l := essential(f)
	for _, h := range l[len(common(c.before, l)):] {
		if c.labels[h.Label].first < i {
			return false
		}
	}
	return true
}
