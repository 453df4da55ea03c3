package eliminate

import (
	"apodixis/api"
	"apodixis/book"
	"apodixis/graph"
)

// maxMade is how many steps may come about when a proof is rewritten.
const maxMade = 40000

// theorem is a theorem whose proof is right, in a database that has no assertions but those that the proof names: to check all of them each time would take longer than the proofs.
type theorem struct {
	part   api.Database
	number int
	proof  api.Proof
}

// theorem returns the theorem with a number.
func (x *rewriter) theorem(number int) theorem {
	f := x.Database.Frames[number]
	named := map[string]bool{}
	for _, word := range f.Proof {
		named[word] = true
	}
	t := theorem{part: api.Database{Constants: x.Database.Constants, Variables: x.Database.Variables}}
	for _, ahead := range x.Database.Frames[:number] {
		if named[ahead.Label] {
			ahead.Theorem, ahead.Proof = false, nil
			t.part.Frames = append(t.part.Frames, ahead)
		}
	}
	t.number = len(t.part.Frames)
	t.part.Frames = append(t.part.Frames, f)
	var e api.Errno
	t.proof, e = graph.Of(t.part, t.number)
	must(e)
	return t
}

// proof returns the proof of a theorem without the definition.
func (x *rewriter) proof(t theorem) api.Proof {
	texts, _, e := graph.Texts(t.part, t.number, t.proof)
	must(e)
	for _, text := range texts {
		x.text(text, api.MaxFormula)
	}
	w := writer{rewriter: x, steps: book.NewSteps()}
	place := make([]int, len(t.proof.Steps))
	table := w.table()
	for s, step := range t.proof.Steps {
		var args []int
		for _, a := range step.Args {
			args = append(args, place[a])
		}
		if rewrite, ok := table[step.Label]; ok {
			place[s] = rewrite(args)
		} else {
			place[s] = w.other(step.Label, args)
		}
	}
	p, ok := w.steps.Proof(place[len(place)-1])
	if !ok {
		must(api.ErrLarge)
	}
	_, expanded, e := graph.Size(p)
	must(e)
	if expanded > api.MaxSteps {
		must(api.ErrLarge)
	}
	return p
}

// writer writes the steps of a proof without the definition.
type writer struct {
	*rewriter
	steps *book.Steps
	made  int // also of steps that were there already
}

// add returns the number of a step.
func (w *writer) add(label string, args []int) int {
	w.made++
	if w.made > maxMade {
		must(api.ErrLarge)
	}
	return w.steps.Add(label, args)
}

// table returns what becomes of the steps with certain labels.
func (w *writer) table() map[string]func(args []int) int {
	hyps := w.Database.Frames[w.number].Hyps
	return map[string]func(args []int) int{
		w.definition.Label: func(args []int) int {
			given := map[string]int{}
			for k, label := range w.definition.Args {
				given[label] = args[k]
			}
			return w.right(w.definition.Right, given)
		},
		w.Database.Frames[w.number].Label: func(args []int) int {
			given := map[string]int{}
			for k, h := range hyps {
				given[h.Label] = args[k]
			}
			right := w.right(w.definition.Right, given)
			return w.add(w.reflexive, []int{right})
		},
	}
}

// right returns the last one of the steps of the right side's syntax, with steps for its variables.
func (w *writer) right(t api.Tree, given map[string]int) int {
	if s, ok := given[t.Label]; ok {
		return s
	}
	var args []int
	for _, k := range t.Kids {
		args = append(args, w.right(k, given))
	}
	return w.add(t.Label, args)
}

// other returns the number of a step that stays, without the hypotheses that are no longer mandatory.
func (w *writer) other(label string, args []int) int {
	number, ok := w.numbers[label]
	if !ok { // a hypothesis of the theorem
		return w.add(label, nil)
	}
	var kept []int
	for k, isKept := range w.frame(number).kept {
		if isKept {
			kept = append(kept, args[k])
		}
	}
	return w.add(label, kept)
}
