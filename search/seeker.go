package search

import (
	"iter"
	"slices"

	"apodixis/api"
	"apodixis/assist"
)

// seeker makes attempts on the goals of an assistant, and counts them.
type seeker struct {
	*assist.Assistant
	depth, fuel, used int
	attempts          []Tactic
}

func newSeeker(a *assist.Assistant, o Options) *seeker {
	s := &seeker{Assistant: a, depth: o.Depth, fuel: o.Fuel}
	db, n := a.Theorem()
	theorem := db.Frames[n]
	for _, label := range premises(theorem) {
		s.attempts = append(s.attempts, assume(label))
	}
	for _, f := range db.Frames[:n] {
		isUsed := len(o.Use) == 0 || slices.Contains(o.Use, f.Label)
		if isUsed && f.Text[0] == theorem.Text[0] { // the turnstile, as assist.New takes no other theorem
			s.attempts = append(s.attempts, apply(f.Label))
		}
	}
	return s
}

// premises returns the labels of the essential hypotheses of a theorem.
func premises(f api.Frame) []string {
	var l []string
	for _, h := range f.Hyps {
		if !h.Floating {
			l = append(l, h.Label)
		}
	}
	return l
}

// spent is what leaves a search that has no fuel for another attempt.
type spent struct{}

// run does a search, and returns the error with which it ends.
func (s *seeker) run(search func() bool) (e api.Errno) {
	defer func() {
		switch recover().(type) {
		case nil:
		case spent:
			e = api.ErrSteps
		default:
			e = api.ErrState // whatever else stops a search, it finds nothing
		}
	}()
	if !search() {
		return api.ErrNone
	}
	return api.OK
}

// successes makes the attempts on a goal, and yields the numbers of those that return OK.
func (s *seeker) successes(goal int) iter.Seq[int] {
	return func(yield func(int) bool) {
		for n, attempt := range s.attempts {
			if s.used == s.fuel {
				panic(spent{})
			}
			s.used++
			if attempt(s.Assistant, goal) == api.OK && !yield(n) {
				return
			}
		}
	}
}

// within searches with a limit. goals returns the open steps that are to be filled; behind a search that fails all is as before.
func (s *seeker) within(limit int, goals func() []int, isDone func() bool) bool {
	open := goals()
	if len(open) == 0 {
		return isDone()
	}
	if len(open) > limit {
		return false
	}
	for range s.successes(open[0]) {
		if s.within(limit-1, goals, isDone) {
			return true
		}
		s.Undo()
	}
	return false
}

// deepen looks for a proof with one limit behind the other.
func (s *seeker) deepen() (p api.Proof, limit int, ok bool) {
	isProved := func() bool {
		var e api.Errno
		p, e = s.Proof()
		return e == api.OK
	}
	goals := func() []int { return s.View().Open }
	for limit := range s.depth + 1 {
		if s.within(limit, goals, isProved) {
			return p, limit, true
		}
	}
	return api.Proof{}, 0, false
}

// fill fills a goal, and all those that arise from it.
func (s *seeker) fill(goal int) bool {
	before := len(s.View().Steps)
	goals := func() []int {
		isOther := func(n int) bool { return n != goal && n < before }
		return slices.DeleteFunc(s.View().Open, isOther)
	}
	isFilled := func() bool { return true }
	for limit := range s.depth {
		if s.within(limit+1, goals, isFilled) {
			return true
		}
	}
	return false
}
