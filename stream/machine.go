package stream

import (
	"slices"

	"apodixis/api"
)

// span is a range of a machine's stack.
type span struct{ begin, end int }

// machine performs the steps of a proof. The formulas of its stack stand one behind the other in one slice.
type machine struct {
	*frame
	symbols []symbol
	stack   []int
	begins  []int  // where each formula begins
	bound   []span // what the variables of the assertion of a step become, by their numbers
	tags    [][]int
}

// perform performs a step, or returns its error.
func (m *machine) perform(s step) api.Errno {
	switch {
	case s.unknown:
		return api.ErrUnknown
	case s.tag > 0:
		m.push(m.tags[s.tag-1])
	case s.hyp != nil:
		m.push(s.hyp.text)
	case s.assertion != nil:
		if e := m.apply(s.assertion); e != api.OK {
			return e
		}
	default:
		return api.ErrLabel
	}
	if s.tagged {
		last := m.begins[len(m.begins)-1]
		m.tags = append(m.tags, slices.Clone(m.stack[last:]))
	}
	return api.OK
}

func (m *machine) push(text []int) {
	m.begins = append(m.begins, len(m.stack))
	m.stack = append(m.stack, text...)
}

// entry returns where the formula with an index stands.
func (m *machine) entry(i int) span {
	if i+1 < len(m.begins) {
		return span{m.begins[i], m.begins[i+1]}
	}
	return span{m.begins[i], len(m.stack)}
}

// apply puts the formula of an assertion in the place of those of its hypotheses.
func (m *machine) apply(a *assertion) api.Errno {
	rest := len(m.begins) - len(a.hyps)
	if rest < 0 {
		return api.ErrStack
	}
	for i, h := range a.hyps {
		if !h.floating {
			continue
		}
		x := m.entry(rest + i)
		if m.stack[x.begin] != h.text[0] {
			return api.ErrKind
		}
		m.bound[h.text[1]] = span{x.begin + 1, x.end}
	}
	for i, h := range a.hyps {
		if !h.floating && !m.fits(h.text, m.entry(rest+i)) {
			return api.ErrMatch
		}
	}
	if m.length(a.text) > api.MaxFormula {
		return api.ErrLarge
	}
	if m.breaks(a) {
		return api.ErrApart
	}
	m.replace(rest, a.text)
	return api.OK
}

// image returns what the symbol i of a formula of the assertion becomes.
func (m *machine) image(text []int, i int) []int {
	if m.symbols[text[i]].constant {
		return text[i : i+1]
	}
	x := m.bound[text[i]]
	return m.stack[x.begin:x.end]
}

// fits reports whether an entry is what a formula of the assertion becomes.
func (m *machine) fits(text []int, x span) bool {
	rest := m.stack[x.begin:x.end]
	for i := range text {
		image := m.image(text, i)
		if len(image) > len(rest) || !slices.Equal(image, rest[:len(image)]) {
			return false
		}
		rest = rest[len(image):]
	}
	return len(rest) == 0
}

// length returns how many symbols a formula of the assertion becomes.
func (m *machine) length(text []int) int {
	n := 0
	for i := range text {
		n += len(m.image(text, i))
	}
	return n
}

// breaks reports whether variables come together that an assertion needs to be disjoint.
func (m *machine) breaks(a *assertion) bool {
	if len(a.apart) == 0 {
		return false
	}
	found := make([]set, len(a.hyps))
	for i, h := range a.hyps {
		if h.floating {
			found[i] = m.variables(m.bound[h.text[1]])
		}
	}
	for _, p := range a.apart {
		for at, others := range m.wide {
			if found[p[0]].has(at) && !found[p[1]].isWithin(others) {
				return true
			}
		}
	}
	return false
}

// variables returns the places of the variables in a range of the stack.
func (m *machine) variables(x span) set {
	var found set
	for _, s := range m.stack[x.begin:x.end] {
		if at := m.places[s]; at > 0 {
			found.add(at)
		}
	}
	return found
}

// replace puts what a formula of the assertion becomes in the place of all entries from an index on. It is built behind them, as they are what it is built of.
func (m *machine) replace(rest int, text []int) {
	end := len(m.stack)
	begin := end
	if rest < len(m.begins) {
		begin = m.begins[rest]
	}
	for i := range text {
		m.stack = append(m.stack, m.image(text, i)...)
	}
	n := copy(m.stack[begin:], m.stack[end:])
	m.stack = m.stack[:begin+n]
	m.begins = append(m.begins[:rest], begin)
}

// end returns the error behind all steps.
func (m *machine) end() api.Errno {
	switch {
	case len(m.begins) != 1:
		return api.ErrStack
	case !slices.Equal(m.stack, m.text):
		return api.ErrProves
	}
	return api.OK
}
