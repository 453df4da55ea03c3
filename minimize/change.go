package minimize

import (
	"slices"

	"apodixis/api"
	"apodixis/frame"
	"apodixis/graph"
)

// needed returns the numbers of the steps that a step needs, and its own, ascending.
func needed(steps []api.Step, last int) []int {
	wanted := make([]bool, last+1)
	wanted[last] = true
	var l []int
	for n := last; n >= 0; n-- {
		if !wanted[n] {
			continue
		}
		l = append(l, n)
		for _, a := range steps[n].Args {
			wanted[a] = true
		}
	}
	slices.Reverse(l)
	return l
}

// copied returns the proof that consists of some steps, numbered anew, as new memory.
func copied(p api.Proof, kept []int) api.Proof {
	place := make([]int, len(p.Steps))
	var q api.Proof
	for at, n := range kept {
		place[n] = at
		x := api.Step{Label: p.Steps[n].Label}
		for _, a := range p.Steps[n].Args {
			x.Args = append(x.Args, place[a])
		}
		q.Steps = append(q.Steps, x)
	}
	return q
}

// done returns a proof behind a change, still with all its steps, and the numbers of those that it needs.
func (c Change) done(p api.Proof) (api.Proof, []int) {
	steps := slices.Clone(p.Steps)
	last := len(steps) - 1
	if c.Reason == Replaced {
		steps[c.Step] = api.Step{Label: c.Label, Args: c.Args}
		return api.Proof{Steps: steps}, needed(steps, last)
	}
	t := c.Args[0]
	for n := c.Step + 1; n < len(steps); n++ {
		if slices.Contains(steps[n].Args, c.Step) {
			steps[n].Args = slices.Clone(steps[n].Args)
			for k, a := range steps[n].Args {
				if a == c.Step {
					steps[n].Args[k] = t
				}
			}
		}
	}
	if last == c.Step {
		last = t
	}
	return api.Proof{Steps: steps}, needed(steps, last)
}

// areAhead reports whether numbers are those of steps ahead of another one.
func areAhead(args []int, step int) bool {
	return !slices.ContainsFunc(args, func(a int) bool { return a < 0 || a >= step })
}

// isShared reports whether a step has the formula of the one that a change puts in its place.
func isShared(texts [][]string, c Change) bool {
	return c.Label == "" && len(c.Args) == 1 && areAhead(c.Args, c.Step) && slices.Equal(texts[c.Args[0]], texts[c.Step])
}

// isReplaced reports whether the assertion of a change gives the formula of a step.
func isReplaced(db api.Database, i int, p api.Proof, texts [][]string, c Change) bool {
	k := frame.Find(db, c.Label)
	if k < 0 || k >= i || len(c.Args) != len(db.Frames[k].Hyps) || !areAhead(c.Args, c.Step) {
		return false
	}
	q, _ := c.done(p)
	l, v, e := graph.Texts(db, i, q)
	return e == api.OK && v.Code == api.OK && slices.Equal(l[c.Step], texts[c.Step])
}
