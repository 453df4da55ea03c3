package minimize

import (
	"cmp"
	"slices"
	"strings"

	"apodixis/api"
)

// width is how many bytes stand for a symbol. A database has fewer than 65536 symbols.
const width = 2

// text is a formula: its typecode, and what stands for its other symbols, so that a part of it is a string without further memory.
type text struct{ code, rest string }

// coder gives symbols what stands for them.
type coder map[string]string

func (c coder) write(symbols []string) string {
	var s strings.Builder
	for _, x := range symbols {
		if _, ok := c[x]; !ok {
			n := len(c)
			c[x] = string([]byte{byte(n >> 8), byte(n)})
		}
		s.WriteString(c[x])
	}
	return s.String()
}

func (c coder) text(formula []string) text { return text{formula[0], c.write(formula[1:])} }

// part is a part of a pattern: a variable, as the number of its floating hypothesis, or other symbols.
type part struct {
	hyp   int // below 0 for other symbols
	fixed string
}

// pattern is a formula of an assertion, and the number of its hypothesis.
type pattern struct {
	hyp   int // below 0 for what the assertion proves
	code  string
	parts []part
	size  int
}

// rule is an assertion that is tried.
type rule struct {
	api.Frame
	goal     pattern
	premises []pattern // the longest ones first, as they fit to the fewest steps
}

func (c coder) rule(f api.Frame) rule {
	floats := map[string]int{}
	for k, h := range f.Hyps {
		if h.Floating {
			floats[h.Text[1]] = k
		}
	}
	r := rule{Frame: f, goal: c.pattern(f.Text, floats)}
	r.goal.hyp = -1
	for k, h := range f.Hyps {
		if !h.Floating {
			p := c.pattern(h.Text, floats)
			p.hyp = k
			r.premises = append(r.premises, p)
		}
	}
	slices.SortStableFunc(r.premises, func(p, q pattern) int { return cmp.Compare(q.size, p.size) })
	return r
}

// pattern returns a formula in which variables have the numbers that floats tells.
func (c coder) pattern(formula []string, floats map[string]int) pattern {
	p := pattern{code: formula[0], size: len(formula)}
	for _, s := range formula[1:] {
		k, isVariable := floats[s]
		if !isVariable {
			k = -1
		}
		last := len(p.parts) - 1
		switch {
		case isVariable:
			p.parts = append(p.parts, part{hyp: k})
		case last >= 0 && p.parts[last].hyp < 0:
			p.parts[last].fixed += c.write([]string{s})
		default:
			p.parts = append(p.parts, part{-1, c.write([]string{s})})
		}
	}
	return p
}
