package verify

import (
	"slices"

	"apodixis/api"
	"apodixis/frame"
)

// kind is what a step of a proof does.
type kind int

const (
	unknown    kind = iota // it is a question mark
	other                  // its label may not be used there
	hypothesis             // it puts the text of an active hypothesis on the stack
	assertion              // it applies an assertion that stands ahead
	tag                    // it puts a formula on the stack once more
)

// step is a step of a proof; number is that of an assertion, or of a tag.
type step struct {
	kind   kind
	text   []string
	number int
	tagged bool
}

// planner finds what the steps of a proof do.
type planner struct {
	theorem api.Frame
	number  int
	labels  map[string]int
}

// steps returns the steps of a proof, and rejects one whose format is not right.
func (p planner) steps(proof []string) []step {
	if isCompressed(proof) {
		return p.compressed(proof)
	}
	limit(len(proof))
	var l []step
	for _, w := range proof {
		l = append(l, p.named(w))
	}
	return l
}

// named returns the step that a word of a normal proof or of the list of a compressed one means.
func (p planner) named(label string) step {
	if label == "?" {
		return step{kind: unknown}
	}
	if h, ok := frame.Hyp(p.theorem, label); ok {
		return step{kind: hypothesis, text: h.Text}
	}
	if i, ok := p.labels[label]; ok && i < p.number {
		return step{kind: assertion, number: i}
	}
	return step{kind: other}
}

func (p planner) compressed(proof []string) []step {
	labels, words := divide(proof)
	var listed []step
	for _, h := range p.theorem.Hyps {
		if slices.Contains(labels, h.Label) {
			reject(api.ErrList)
		}
		listed = append(listed, step{kind: hypothesis, text: h.Text})
	}
	for _, label := range labels {
		listed = append(listed, p.named(label))
	}
	var l []step
	tags := 0
	for x := range letters(words) {
		var s step
		behind := x.Number - len(listed) // the number of a tag
		switch {
		case x.Number == 0:
			s.kind = unknown
		case behind <= 0:
			s = listed[x.Number-1]
		case behind <= tags:
			s = step{kind: tag, number: behind - 1}
		default:
			reject(api.ErrCode)
		}
		if x.Tagged {
			s.tagged = true
			tags++
		}
		l = append(l, s)
	}
	limit(len(l))
	return l
}
