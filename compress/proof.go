package compress

import (
	"slices"

	"apodixis/api"
	"apodixis/frame"
)

// fullWidth is how many letters the words of a canonical proof have, but for the last one.
const fullWidth = 60

// check returns the error of a database and of the index of a frame.
func check(db api.Database, i int) api.Errno {
	if e := frame.Check(db); e != api.OK {
		return e
	}
	if i < 0 || i >= len(db.Frames) {
		return api.ErrRange
	}
	return api.OK
}

// Decode returns the proof of a theorem that is compressed, or the verdict with which it cannot be one.
func Decode(db api.Database, i int) (api.Proof, api.Verdict, api.Errno) {
	if e := check(db, i); e != api.OK {
		return api.Proof{}, api.Verdict{}, e
	}
	f := db.Frames[i]
	if !f.Theorem || !Is(f.Proof) {
		return api.Proof{}, api.Verdict{}, api.ErrArg
	}
	items, e := listed(f)
	if e != api.OK {
		return api.Proof{}, api.Verdict{Code: e}, api.OK
	}
	p, v := build(db, i, items)
	return p, v, api.OK
}

// listed returns the items of a theorem's own proof.
func listed(f api.Frame) ([]Item, api.Errno) {
	labels, letters, e := divide(f.Proof)
	if e != api.OK {
		return nil, e
	}
	numbers, _, e := Numbers(letters)
	// Items tells a label of a mandatory hypothesis, too, but only ErrCode of the letters comes behind it.
	if e == api.ErrCode && hasMandatory(f, labels) {
		return nil, api.ErrList
	}
	if e != api.OK {
		return nil, e
	}
	return Items(f, Code{Labels: labels, Numbers: numbers})
}

// build returns the graph of items, or the first error among them.
func build(db api.Database, i int, items []Item) (api.Proof, api.Verdict) {
	var p api.Proof
	var stack []int
	steps := make([]int, len(items)) // the step of each item
	for at, item := range items {
		if item.Unknown {
			return api.Proof{}, api.Verdict{Code: api.ErrUnknown, Step: at}
		}
		if item.Back >= 0 {
			steps[at] = steps[item.Back]
			stack = append(stack, steps[at])
			continue
		}
		count, ok := needs(db, i, item.Label)
		if !ok {
			return api.Proof{}, api.Verdict{Code: api.ErrLabel, Step: at}
		}
		rest := len(stack) - count
		if rest < 0 {
			return api.Proof{}, api.Verdict{Code: api.ErrStack, Step: at}
		}
		steps[at] = len(p.Steps)
		p.Steps = append(p.Steps, api.Step{Label: item.Label, Args: slices.Clone(stack[rest:])})
		stack = append(stack[:rest], steps[at])
	}
	if len(stack) != 1 {
		return api.Proof{}, api.Verdict{Code: api.ErrStack, Step: len(items)}
	}
	return p, api.Verdict{}
}

// needs returns how many arguments a step with a label has in a proof of the frame i, if there may be one.
func needs(db api.Database, i int, label string) (int, bool) {
	if _, ok := frame.Hyp(db.Frames[i], label); ok {
		return 0, true
	}
	j := frame.Find(db, label)
	if j < 0 || j >= i {
		return 0, false
	}
	return len(db.Frames[j].Hyps), true
}

// Encode returns the code of a proof of a frame, in its canonical form.
func Encode(db api.Database, i int, p api.Proof) (Code, api.Errno) {
	if e := check(db, i); e != api.OK {
		return Code{}, e
	}
	f := db.Frames[i]
	if !f.Theorem {
		return Code{}, api.ErrArg
	}
	if !isWellFormed(db, i, p) {
		return Code{}, api.ErrForm
	}
	c, count := emitted(f, p)
	if count > api.MaxSteps {
		return Code{}, api.ErrSteps
	}
	return c, api.OK
}

// isWellFormed reports whether a proof of the frame i is well-formed.
func isWellFormed(db api.Database, i int, p api.Proof) bool {
	if len(p.Steps) == 0 || len(p.Steps) > api.MaxSteps {
		return false
	}
	for at, s := range p.Steps {
		count, ok := needs(db, i, s.Label)
		if !ok || len(s.Args) != count {
			return false
		}
		for _, a := range s.Args {
			if a < 0 || a >= at {
				return false
			}
		}
	}
	return true
}

// emitted returns the code of a well-formed proof, and how many of its numbers are not Save.
func emitted(f api.Frame, p api.Proof) (c Code, count int) {
	last := len(p.Steps) - 1
	uses := countUses(p)
	own := numbering(f, &c.Labels)
	saved := map[int]int{}
	var back []int // where the numbers of saved items stand, to which the number of all labels is still to be added
	var emit func(s int)
	emit = func(s int) {
		n, ok := saved[s]
		if ok {
			back = append(back, len(c.Numbers))
		} else {
			for _, a := range p.Steps[s].Args {
				emit(a)
			}
			n = own(p.Steps[s].Label)
		}
		c.Numbers = append(c.Numbers, n)
		count++
		if !ok && uses[s] > 1 && len(p.Steps[s].Args) > 0 {
			c.Numbers = append(c.Numbers, Save)
			saved[s] = len(f.Hyps) + 1 + len(saved)
		}
	}
	emit(last)
	for _, at := range back {
		c.Numbers[at] += len(c.Labels)
	}
	return c, count
}

// countUses returns how often each step is an argument of the steps that the last one needs.
func countUses(p api.Proof) []int {
	uses := make([]int, len(p.Steps))
	for s := len(p.Steps) - 1; s >= 0; s-- {
		if s < len(p.Steps)-1 && uses[s] == 0 {
			continue
		}
		for _, a := range p.Steps[s].Args {
			uses[a]++
		}
	}
	return uses
}

// numbering returns a function that tells the number of a label, and adds labels that are new.
func numbering(f api.Frame, labels *[]string) func(string) int {
	known := map[string]int{}
	for k, h := range f.Hyps {
		known[h.Label] = k + 1
	}
	return func(label string) int {
		n, ok := known[label]
		if !ok {
			*labels = append(*labels, label)
			n = len(f.Hyps) + len(*labels)
			known[label] = n
		}
		return n
	}
}

// Proof returns the words of a proof of a frame, compressed in the canonical form.
func Proof(db api.Database, i int, p api.Proof) ([]string, api.Errno) {
	c, e := Encode(db, i, p)
	if e != api.OK {
		return nil, e
	}
	return Write(c, fullWidth)
}

// Canonical reports whether the words of a frame's proof are those that Proof returns for it.
func Canonical(db api.Database, i int) (bool, api.Errno) {
	p, v, e := Decode(db, i)
	if e != api.OK || v.Code != api.OK {
		return false, e
	}
	words, e := Proof(db, i, p)
	if e != api.OK {
		return false, e
	}
	return slices.EqualFunc(words, db.Frames[i].Proof, sameWord), api.OK
}

// sameWord reports whether two words are equal; most words of letters are full.
func sameWord(a, b string) bool {
	if len(a) == fullWidth && len(b) == fullWidth {
		return [fullWidth]byte([]byte(a)) == [fullWidth]byte([]byte(b))
	}
	return a == b
}
