package minimize

import (
	"iter"
	"slices"
	"strings"
)

// matcher finds the steps ahead of a step by which an assertion gives its formula. Its methods tell whether to go on, as a loop does.
type matcher struct {
	*seeker
	rule rule
	step int
	args []int // below 0 for those that are not found
}

// candidates yields the Args by which an assertion gives the formula of a step, but for its disjointness. They change when the next ones are yielded.
func (x *seeker) candidates(r rule, step int) iter.Seq[[]int] {
	return func(yield func([]int) bool) {
		goal := x.texts[step]
		if r.goal.code != goal.code {
			return
		}
		m := matcher{x, r, step, slices.Repeat([]int{-1}, len(r.Hyps))}
		var supply func() bool // finds steps for the premises
		supply = func() bool {
			p, ok := m.premise()
			if !ok {
				return yield(m.args)
			}
			if m.isKnown(p) {
				n, ok := m.find(m.filled(p))
				return !ok || m.with(p.hyp, n, supply)
			}
			for _, n := range x.firsts[p.code] {
				if n >= step {
					break
				}
				match := func() bool { return m.match(p.parts, x.texts[n].rest, supply) }
				if !m.with(p.hyp, n, match) {
					return false
				}
			}
			return true
		}
		m.match(r.goal.parts, goal.rest, supply)
	}
}

// find returns the first step with a formula, if it is ahead.
func (m matcher) find(t text) (int, bool) {
	n, ok := m.first[t]
	return n, ok && n < m.step
}

// with does something while a hypothesis has a step.
func (m matcher) with(hyp, n int, do func() bool) bool {
	m.args[hyp] = n
	goesOn := do()
	m.args[hyp] = -1
	return goesOn
}

// premise returns one without a step, if there is one, and rather one whose variables all have formulas.
func (m matcher) premise() (p pattern, ok bool) {
	for _, q := range m.rule.premises {
		if m.args[q.hyp] >= 0 {
			continue
		}
		if m.isKnown(q) {
			return q, true
		}
		if !ok {
			p, ok = q, true
		}
	}
	return p, ok
}

// known returns what stands for a part, unless it is a variable without a formula.
func (m matcher) known(p part) (string, bool) {
	if p.hyp < 0 {
		return p.fixed, true
	}
	if m.args[p.hyp] < 0 {
		return "", false
	}
	return m.texts[m.args[p.hyp]].rest, true
}

func (m matcher) isKnown(p pattern) bool {
	isOpen := func(x part) bool {
		_, ok := m.known(x)
		return !ok
	}
	return !slices.ContainsFunc(p.parts, isOpen)
}

// filled returns the formula of a pattern whose variables all have formulas.
func (m matcher) filled(p pattern) text {
	var s strings.Builder
	for _, x := range p.parts {
		known, _ := m.known(x)
		s.WriteString(known)
	}
	return text{p.code, s.String()}
}

// match goes on with then for each way in which the parts of a pattern become a text.
func (m matcher) match(parts []part, rest string, then func() bool) bool {
	if len(parts) == 0 {
		return rest != "" || then()
	}
	p := parts[0]
	if s, ok := m.known(p); ok {
		behind, fits := strings.CutPrefix(rest, s)
		return !fits || m.match(parts[1:], behind, then)
	}
	code := m.rule.Hyps[p.hyp].Text[0]
	for end := range m.ends(parts[1:], rest) {
		n, ok := m.find(text{code, rest[:end]})
		if !ok {
			continue
		}
		goOn := func() bool { return m.match(parts[1:], rest[end:], then) }
		if !m.with(p.hyp, n, goOn) {
			return false
		}
	}
	return true
}

// ends yields where a variable's formula may end ahead of some parts.
func (m matcher) ends(behind []part, rest string) iter.Seq[int] {
	return func(yield func(int) bool) {
		if len(behind) == 0 {
			yield(len(rest))
			return
		}
		next, _ := m.known(behind[0])
		for end := 0; end <= len(rest); end += width {
			if strings.HasPrefix(rest[end:], next) && !yield(end) {
				return
			}
		}
	}
}
