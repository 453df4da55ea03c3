package search

import (
	"cmp"
	"container/heap"
	"slices"

	"apodixis/api"
)

// state is what an attempt led to: it is made again when it is needed.
type state struct {
	before  *state
	attempt int
	length  int
	cost    float32
	order   int // how many states were added ahead
	goal    int // the first open step; below 0, if there is none
}

// queue has states, of which it gives the one with the least cost.
type queue interface {
	add(*state)
	take() (*state, bool)
}

// states are a heap.
type states []*state

func (l states) Len() int { return len(l) }

func (l states) Less(i, j int) bool {
	return cmp.Or(cmp.Compare(l[i].cost, l[j].cost), cmp.Compare(l[i].order, l[j].order)) < 0
}

func (l states) Swap(i, j int) { l[i], l[j] = l[j], l[i] }

func (l *states) Push(x any) {
	if s, ok := x.(*state); ok {
		*l = append(*l, s)
	}
}

func (l *states) Pop() any {
	last := len(*l) - 1
	s := (*l)[last]
	*l = (*l)[:last]
	return s
}

func (l *states) add(s *state) { heap.Push(l, s) }

func (l *states) take() (*state, bool) {
	if len(*l) == 0 {
		return nil, false
	}
	s, ok := heap.Pop(l).(*state)
	return s, ok
}

// explorer goes from one state of an assistant to another one.
type explorer struct {
	*seeker
	at    *state
	queue queue
	count int
}

// best looks for a proof, the state with the least cost first.
func (s *seeker) best() (api.Proof, int, bool) {
	x := explorer{seeker: s, queue: &states{}}
	x.at = x.present(nil, 0)
	x.queue.add(x.at)
	for {
		next, ok := x.queue.take()
		if !ok {
			return api.Proof{}, 0, false
		}
		switch {
		case next.goal < 0:
			x.move(next)
			if p, e := x.Proof(); e == api.OK {
				return p, next.length, true
			}
		case next.length < x.depth:
			x.move(next)
			for n := range x.successes(next.goal) {
				x.queue.add(x.present(next, n))
				x.Undo()
			}
		}
	}
}

// present returns the state that the assistant is in, behind an attempt.
func (x *explorer) present(before *state, attempt int) *state {
	s := &state{before: before, attempt: attempt, order: x.count, goal: -1}
	x.count++
	if before != nil {
		s.length = before.length + 1
	}
	v := x.View()
	if len(v.Open) > 0 {
		s.goal = v.Open[0]
	}
	s.cost = float32(s.length)
	for _, n := range v.Open {
		s.cost += weight(v.Steps[n].Tree)
	}
	return s
}

// move brings the assistant into another state, by undoing what leads to the present one and doing what leads to that one.
func (x *explorer) move(to *state) {
	var path []*state // from to back to what both have in common
	for s := to; s != x.at; {
		if s.length > x.at.length {
			path = append(path, s)
			s = s.before
			continue
		}
		x.Undo()
		x.at = x.at.before
	}
	for _, s := range slices.Backward(path) {
		x.attempts[s.attempt](x.Assistant, s.before.goal)
	}
	x.at = to
}
