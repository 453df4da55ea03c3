package stream

import (
	"slices"

	"apodixis/api"
)

// none is the typecode of a variable that never had one.
const none = -1

// symbol is what is known of a symbol that was declared, at the place that is being read.
type symbol struct {
	constant, active bool
	typed            bool // a variable with an active floating hypothesis
	code             int  // the typecode of a variable
}

// hypothesis is a hypothesis whose formula has numbers of symbols.
type hypothesis struct {
	label    string
	floating bool
	text     []int
}

// meaning is what a label may be used for: an active hypothesis, an assertion, or nothing any more.
type meaning struct {
	hyp       *hypothesis
	assertion *assertion
}

// database is what the statements so far have declared and assumed.
type database struct {
	numbers                map[string]int // of all symbols that were ever declared
	symbols                []symbol
	labels                 map[string]meaning // all that were ever used
	active                 []*hypothesis
	disjoint               [][]int    // the variables of each active statement of disjointness
	scopes                 [][]func() // what restores, last one first, what was ahead of each open scope
	statements, assertions int
}

// end takes the end of a statement.
func (r *Reader) end() {
	s := r.now
	switch s.keyword {
	case "$c":
		r.constants(s.text)
	case "$v":
		r.variables(s.text)
	case "$d":
		r.separate(s.text)
	case "$f":
		r.float(s)
	case "$e":
		r.name(s.label)
		r.assume(&hypothesis{label: s.label, text: r.formula(s.text)})
	default:
		r.assert(s)
	}
	r.state = atStart
	r.count()
}

// count counts a statement. Each open scope needs one more, that closes it.
func (r *Reader) count() {
	r.statements++
	if r.statements+len(r.scopes) > api.MaxStatements {
		refuse()
	}
}

func (r *Reader) open() {
	if len(r.scopes) >= api.MaxDepth {
		refuse()
	}
	hyps, pairs := len(r.active), len(r.disjoint)
	r.scopes = append(r.scopes, nil)
	r.later(func() {
		r.active = r.active[:hyps]
		r.disjoint = r.disjoint[:pairs]
	})
	r.count()
}

// leave closes the innermost scope.
func (r *Reader) leave() {
	top := len(r.scopes) - 1
	if top < 0 {
		refuse()
	}
	for _, restore := range slices.Backward(r.scopes[top]) {
		restore()
	}
	r.scopes = r.scopes[:top]
	r.count()
}

// later keeps what is to be done when the innermost scope ends; the outermost one does not.
func (r *Reader) later(restore func()) {
	if top := len(r.scopes) - 1; top >= 0 {
		r.scopes[top] = append(r.scopes[top], restore)
	}
}

func (r *Reader) constants(text []string) {
	if len(r.scopes) > 0 {
		refuse()
	}
	for _, s := range text {
		if r.isDeclared(s) || r.isUsed(s) {
			refuse()
		}
		r.declare(s, symbol{constant: true, active: true})
	}
}

func (r *Reader) variables(text []string) {
	for _, s := range text {
		if !r.isDeclared(s) {
			r.declare(s, symbol{code: none})
		}
		v := r.numbers[s]
		if r.symbols[v].active || r.isUsed(s) {
			refuse()
		}
		r.symbols[v].active = true
		r.later(func() { r.symbols[v].active = false })
	}
}

func (r *Reader) isDeclared(symbol string) bool {
	_, declared := r.numbers[symbol]
	return declared
}

func (r *Reader) isUsed(label string) bool {
	_, used := r.labels[label]
	return used
}

// declare gives a new symbol its number.
func (r *Reader) declare(s string, x symbol) {
	r.numbers[s] = len(r.symbols)
	r.symbols = append(r.symbols, x)
}

func (r *Reader) separate(text []string) {
	if len(text) < 2 {
		refuse()
	}
	var l []int
	for _, s := range text {
		v := r.find(s)
		if r.symbols[v].constant || slices.Contains(l, v) {
			refuse()
		}
		l = append(l, v)
	}
	r.disjoint = append(r.disjoint, l)
}

// find returns the number of an active symbol.
func (r *Reader) find(s string) int {
	n, declared := r.numbers[s]
	if !declared || !r.symbols[n].active {
		refuse()
	}
	return n
}

// name takes the label of a statement, which has to be a new one.
func (r *Reader) name(label string) {
	if r.isUsed(label) || r.isDeclared(label) {
		refuse()
	}
}

func (r *Reader) float(s statement) {
	r.name(s.label)
	code, v := r.find(s.text[0]), r.find(s.text[1])
	x := &r.symbols[v]
	switch {
	case !r.symbols[code].constant, x.constant, x.typed, x.code != none && x.code != code:
		refuse()
	}
	x.typed, x.code = true, code
	r.later(func() { r.symbols[v].typed = false })
	r.assume(&hypothesis{label: s.label, floating: true, text: []int{code, v}})
}

// assume makes a hypothesis active.
func (r *Reader) assume(h *hypothesis) {
	r.active = append(r.active, h)
	r.labels[h.label] = meaning{hyp: h}
	r.later(func() { r.labels[h.label] = meaning{} })
}

// formula returns the numbers of the symbols of a formula.
func (r *Reader) formula(text []string) []int {
	l := make([]int, len(text))
	for i, s := range text {
		l[i] = r.find(s)
		if x := r.symbols[l[i]]; !x.constant && (i == 0 || !x.typed) {
			refuse()
		}
	}
	return l
}

// assert takes an axiom or a theorem. Its own label means nothing in its proof.
func (r *Reader) assert(s statement) {
	r.name(s.label)
	f := r.frame(r.formula(s.text))
	if s.keyword == "$p" {
		r.ended = append(r.ended, Named{Label: s.label, Verdict: r.verify(f, s.proof)})
	}
	r.labels[s.label] = meaning{assertion: &f.assertion}
	r.assertions++
	if r.assertions > api.MaxFrames {
		refuse()
	}
}
