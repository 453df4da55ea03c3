package book

import (
	"slices"
	"strconv"

	"apodixis/api"
	"apodixis/graph"
)

// Steps are steps of a proof, of which those with equal trees are one.
type Steps struct {
	list  []api.Step
	known map[string]int // by labels and Args
}

// NewSteps returns no steps.
func NewSteps() *Steps { return &Steps{known: map[string]int{}} }

// Add returns the number of a step, which is added, if there is none like it.
func (s *Steps) Add(label string, args []int) int {
	text := append([]byte(label), ' ')
	for _, a := range args {
		text = strconv.AppendInt(text, int64(a), 10)
		text = append(text, ' ')
	}
	n, ok := s.known[string(text)]
	if !ok {
		n = len(s.list)
		s.known[string(text)] = n
		s.list = append(s.list, api.Step{Label: label, Args: slices.Clone(args)})
	}
	return n
}

// Proof returns the shared proof that ends with a step; false, if it has more than api.MaxSteps steps.
func (s *Steps) Proof(last int) (api.Proof, bool) {
	needed := make([]bool, last+1)
	needed[last] = true
	count := 0
	for n := last; n >= 0; n-- {
		if needed[n] {
			count++
			for _, a := range s.list[n].Args {
				needed[a] = true
			}
		}
	}
	if count > api.MaxSteps {
		return api.Proof{}, false
	}
	var p api.Proof
	place := make([]int, last+1)
	for n, x := range s.list[:last+1] {
		if !needed[n] {
			continue
		}
		place[n] = len(p.Steps)
		y := api.Step{Label: x.Label}
		for _, a := range x.Args {
			y.Args = append(y.Args, place[a])
		}
		p.Steps = append(p.Steps, y)
	}
	p, e := graph.Share(p)
	return p, e == api.OK
}
