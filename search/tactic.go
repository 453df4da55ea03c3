package search

import (
	"iter"
	"slices"

	"apodixis/api"
	"apodixis/assist"
)

// Tactic changes an assistant, or returns an error.
type Tactic func(a *assist.Assistant, goal int) api.Errno

// do does a tactic, whatever it is: one that panics has an error, too.
func (t Tactic) do(a *assist.Assistant, goal int) (e api.Errno) {
	if t == nil || a == nil {
		return api.ErrArg
	}
	defer func() {
		if recover() != nil {
			e = api.ErrArg
		}
	}()
	return t(a, goal)
}

// restore goes to the version with a number.
func restore(a *assist.Assistant, version int) {
	for a.Version() > version && a.Undo() {
	}
	for a.Version() < version && a.Redo() {
	}
}

// Run does a tactic on a goal; with an error nothing has changed.
func Run(a *assist.Assistant, goal int, t Tactic) api.Errno {
	before := a.Version()
	e := t.do(a, goal)
	if e != api.OK {
		restore(a, before)
	}
	return e
}

// opened yields the steps from one on to below another one that are open when it comes to them.
func opened(a *assist.Assistant, from, to int) iter.Seq[int] {
	return func(yield func(int) bool) {
		for n := from; n < to; n++ {
			if slices.Contains(a.View().Open, n) && !yield(n) {
				return
			}
		}
	}
}

// Then does one tactic, and another one on all goals that it opened.
func Then(a, b Tactic) Tactic {
	return func(x *assist.Assistant, goal int) api.Errno {
		from := len(x.View().Steps)
		if e := a.do(x, goal); e != api.OK {
			return e
		}
		for n := range opened(x, from, len(x.View().Steps)) {
			if e := b.do(x, n); e != api.OK {
				return e
			}
		}
		return api.OK
	}
}

// Else does one tactic, or another one, if the first one returns an error.
func Else(a, b Tactic) Tactic {
	return func(x *assist.Assistant, goal int) api.Errno {
		if Run(x, goal, a) == api.OK {
			return api.OK
		}
		return b.do(x, goal)
	}
}

// Repeat does a tactic as often as it succeeds, at most so many times, on the goals that it opens.
func Repeat(a Tactic, most int) Tactic {
	return func(x *assist.Assistant, goal int) api.Errno {
		if x == nil {
			return api.ErrArg
		}
		repeat(x, goal, a, most)
		return api.OK
	}
}

// repeat does a tactic on a goal, and, if that succeeds, on those that it opens, at most so many levels deep.
func repeat(x *assist.Assistant, goal int, a Tactic, most int) {
	from := len(x.View().Steps)
	if most < 1 || Run(x, goal, a) != api.OK {
		return
	}
	for n := range opened(x, from, len(x.View().Steps)) {
		repeat(x, n, a, most-1)
	}
}

// By proves a goal by an assertion or a hypothesis.
func By(label string) Tactic {
	return func(a *assist.Assistant, goal int) api.Errno {
		e := a.Apply(goal, label)
		if e == api.ErrNone {
			e = a.Assume(goal, label)
		}
		return e
	}
}

// Assumption proves a goal by the first hypothesis that fits.
func Assumption() Tactic {
	return func(a *assist.Assistant, goal int) api.Errno {
		if a == nil {
			return api.ErrArg
		}
		db, n := a.Theorem()
		for _, label := range premises(db.Frames[n]) {
			if a.Assume(goal, label) == api.OK {
				return api.OK
			}
		}
		return api.ErrNone
	}
}

// apply and assume are the attempts of searches.
func apply(label string) Tactic {
	return func(a *assist.Assistant, goal int) api.Errno { return a.Apply(goal, label) }
}

func assume(label string) Tactic {
	return func(a *assist.Assistant, goal int) api.Errno { return a.Assume(goal, label) }
}
