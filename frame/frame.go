// Package frame is layer 5: databases as frames. See shared/doc/05-frame.md.
package frame

import (
	"slices"

	"apodixis/api"
	"apodixis/layout"
	"apodixis/scope"
)

// Codes of layer 5.
const (
	ErrFrame api.Errno = 70 // a frame that is not the one of any assertion
)

// Database returns the database of statements; with an error, the index of a statement.
func Database(l []api.Statement) (api.Database, int, api.Errno) {
	if i, e := scope.Check(l); e != api.OK {
		return api.Database{}, i, e
	}
	var db api.Database
	var w walk
	seen := map[string]bool{}
	for i, s := range l {
		switch s.Kind {
		case api.Constants:
			db.Constants = append(db.Constants, s.Text...)
		case api.Variables:
			for _, v := range s.Text {
				if !seen[v] {
					seen[v] = true
					db.Variables = append(db.Variables, v)
				}
			}
		case api.Axiom, api.Theorem:
			if len(db.Frames) >= api.MaxFrames {
				return api.Database{}, i, api.ErrFull
			}
			w.settle()
			f, e := Of(w.active, s)
			if e != api.OK {
				return api.Database{}, i, e
			}
			db.Frames = append(db.Frames, f)
		}
		w.pass(s)
	}
	return db, 0, api.OK
}

// walk has what Of asks for at a place of right statements; scope.At would begin anew for each assertion.
type walk struct {
	active  scope.Active   // without Constants and Depth
	pending []api.Pair     // not yet in Apart, as joining them one by one would take long
	outer   []scope.Active // what was active ahead of each open scope
}

// settle joins the pairs that are pending.
func (w *walk) settle() {
	if len(w.pending) > 0 {
		w.active.Apart = scope.Join(w.active.Apart, w.pending)
		w.pending = nil
	}
}

// pass takes a statement. What is added in a scope may overwrite what was added in one that has ended, but nothing that is still active.
func (w *walk) pass(s api.Statement) {
	a := &w.active
	switch s.Kind {
	case api.Variables:
		a.Variables = append(a.Variables, s.Text...)
	case api.Floating, api.Essential:
		a.Hyps = append(a.Hyps, api.Hyp{Label: s.Label, Floating: s.Kind == api.Floating, Text: s.Text})
	case api.Disjoint:
		w.pending = append(w.pending, scope.Pairs(s.Text)...)
	case api.Open:
		w.settle()
		w.outer = append(w.outer, *a)
	case api.Close:
		last := len(w.outer) - 1
		*a = w.outer[last]
		w.outer = w.outer[:last]
		w.pending = nil
	}
}

// Of returns the frame of an assertion at a place where something is active.
func Of(a scope.Active, s api.Statement) (api.Frame, api.Errno) {
	if _, e := layout.Words([]api.Statement{s}); e == api.ErrForm {
		return api.Frame{}, e
	}
	if s.Kind != api.Axiom && s.Kind != api.Theorem {
		return api.Frame{}, api.ErrArg
	}
	needed := mandatory(a.Variables, s.Text, a.Hyps)
	isNeeded := func(h api.Hyp) bool { return isFloatOf(h, needed) }
	if len(needed) > countFloats(a.Hyps, isNeeded) {
		return api.Frame{}, ErrFrame
	}
	choose := func(wanted func(api.Hyp) bool) []api.Hyp {
		var l []api.Hyp
		for _, h := range a.Hyps {
			if wanted(h) {
				l = append(l, copied(h))
			}
		}
		return l
	}
	f := api.Frame{
		Label:   s.Label,
		Theorem: s.Kind == api.Theorem,
		Hyps:    choose(func(h api.Hyp) bool { return !h.Floating || isNeeded(h) }),
		Apart:   among(a.Apart, needed),
		Text:    slices.Clone(s.Text),
		Dummies: choose(func(h api.Hyp) bool { return h.Floating && !isNeeded(h) }),
		Wide:    slices.Clone(a.Apart),
		Proof:   slices.Clone(s.Proof),
	}
	if len(f.Hyps) > api.MaxHyps || len(f.Dummies) > api.MaxHyps {
		return api.Frame{}, api.ErrSize
	}
	return f, api.OK
}

// mandatory returns those of variables that occur in a formula or in essential hypotheses.
func mandatory(variables, text []string, hyps []api.Hyp) map[string]bool {
	occurs := map[string]bool{}
	for _, s := range text {
		occurs[s] = true
	}
	for _, h := range hyps {
		if !h.Floating {
			for _, s := range h.Text {
				occurs[s] = true
			}
		}
	}
	needed := map[string]bool{}
	for _, v := range variables {
		if occurs[v] {
			needed[v] = true
		}
	}
	return needed
}

// isFloatOf reports whether a hypothesis is a floating one of one of these variables.
func isFloatOf(h api.Hyp, variables map[string]bool) bool {
	return h.Floating && len(h.Text) == 2 && variables[h.Text[1]]
}

// countFloats returns how many variables have a hypothesis that is wanted.
func countFloats(hyps []api.Hyp, wanted func(api.Hyp) bool) int {
	has := map[string]bool{}
	for _, h := range hyps {
		if wanted(h) {
			has[h.Text[1]] = true
		}
	}
	return len(has)
}

// among returns the pairs of two of these variables.
func among(pairs []api.Pair, variables map[string]bool) []api.Pair {
	var l []api.Pair
	for _, p := range pairs {
		if variables[p.A] && variables[p.B] {
			l = append(l, p)
		}
	}
	return l
}

// copied returns a hypothesis that shares no memory with h.
func copied(h api.Hyp) api.Hyp {
	h.Text = slices.Clone(h.Text)
	return h
}
