package table

import (
	"slices"

	"apodixis/api"
	"apodixis/grammar"
)

// Check returns the error of a table.
func Check(g grammar.Grammar, t Table) api.Errno {
	if e := grammar.Check(g); e != api.OK {
		return e
	}
	return check(newRules(g, t.Sort), t)
}

// check returns the error of a table of a right grammar.
func check(r *rules, t Table) api.Errno {
	if !hasSizes(t) || !slices.Contains(r.g.Sorts, t.Sort) || !r.hasStates(t) || !r.hasEdges(t) {
		return ErrTable
	}
	for _, state := range t.States {
		if _, ok := r.conflict(state); ok {
			return ErrConflict
		}
	}
	return api.OK
}

func hasSizes(t Table) bool {
	isWrong := func(state []Item) bool { return len(state) == 0 || len(state) > maxItems }
	return len(t.States) > 0 && len(t.States) <= maxStates && len(t.Edges) <= maxEdges && !slices.ContainsFunc(t.States, isWrong)
}

// hasStates reports whether each state is its own closure, in order, and the first one the beginning.
func (r *rules) hasStates(t Table) bool {
	for _, state := range t.States {
		if slices.ContainsFunc(state, func(x Item) bool { return !r.isItem(x) }) || !r.isClosure(state, state) {
			return false
		}
	}
	return r.isClosure([]Item{{whole, 0, ""}}, t.States[0])
}

// isClosure reports whether a state is the closure of some items.
func (r *rules) isClosure(l, state []Item) bool {
	closed, ok := r.closure(l)
	return ok && slices.Equal(closed, state)
}

// edges are those of a table, by the state and the step.
type edges map[from]int

type from struct {
	state int
	step  step
}

// newEdges returns the edges of a table, if no two of them are of one state and one step.
func newEdges(t Table) (edges, bool) {
	l := edges{}
	for _, e := range t.Edges {
		l[from{e.From, step{e.On, e.Sort}}] = e.To
	}
	return l, len(l) == len(t.Edges)
}

// hasEdges reports whether a table with right states has all edges that it needs, and no others.
func (r *rules) hasEdges(t Table) bool {
	l, ok := newEdges(t)
	if !ok {
		return false
	}
	needed := 0
	kernels := map[int][]Item{} // of the states to which edges lead
	for i, state := range t.States {
		for s, kernel := range r.moves(state) {
			to, ok := l[from{i, s}]
			if !ok || to < 0 || to >= len(t.States) {
				return false
			}
			if _, known := kernels[to]; !known {
				kernels[to] = r.kernel(t.States[to])
			}
			if !slices.Equal(kernels[to], kernel) {
				return false
			}
			needed++
		}
	}
	return needed == len(l)
}

// kernel returns the items of a state whose dot is not at the beginning, as an edge moves them; nothing, if the state has more than their closure.
func (r *rules) kernel(state []Item) []Item {
	l := slices.DeleteFunc(slices.Clone(state), func(x Item) bool { return x.Dot == 0 })
	if !r.isClosure(l, state) {
		return nil
	}
	return l
}
