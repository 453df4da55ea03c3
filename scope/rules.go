package scope

import (
	"strconv"

	"apodixis/api"
	"apodixis/layout"
)

// broken is a rule that is broken, and the index of the statement that breaks it.
type broken struct {
	at   int
	code api.Errno
}

func (b broken) Error() string { return "statement " + strconv.Itoa(b.at) + ": " + b.code.Error() }

func (b broken) Unwrap() error { return b.code }

// level has what was declared in one scope; the outermost one is a level, too.
type level struct {
	begin     int // the index of its Open statement
	declared  map[string]bool
	typed     map[string]bool // variables with a floating hypothesis
	variables []string
	hyps      []api.Hyp
	disjoint  [][]string
}

// state is what the rules of a statement depend on.
type state struct {
	at        int
	constants []string
	symbols   map[string]bool // all that were ever declared; whether it is a constant
	labels    map[string]bool
	types     map[string]string
	levels    []level
}

// run takes statements up to the first one that breaks a rule.
func run(l []api.Statement) (*state, error) {
	s := &state{symbols: map[string]bool{}, labels: map[string]bool{}, types: map[string]string{}}
	s.enter()
	table := rules()
	for i, x := range l {
		s.at = i
		if _, e := layout.Words([]api.Statement{x}); e == api.ErrForm {
			return s, s.broken(e)
		}
		if err := table[x.Kind](s, x); err != nil {
			return s, err
		}
	}
	return s, nil
}

// rules returns the rules by the kinds of statements.
func rules() [10]func(*state, api.Statement) error {
	return [10]func(*state, api.Statement) error{
		api.Constants: (*state).declareConstants,
		api.Variables: (*state).declareVariables,
		api.Floating:  (*state).float,
		api.Essential: (*state).assume,
		api.Disjoint:  (*state).separate,
		api.Axiom:     (*state).assert,
		api.Theorem:   (*state).assert,
		api.Open:      (*state).open,
		api.Close:     (*state).close,
	}
}

func (s *state) broken(e api.Errno) error { return broken{s.at, e} }

func (s *state) enter() {
	s.levels = append(s.levels, level{begin: s.at, declared: map[string]bool{}, typed: map[string]bool{}})
}

func (s *state) depth() int { return len(s.levels) - 1 }

func (s *state) top() *level { return &s.levels[len(s.levels)-1] }

func (s *state) isConstant(symbol string) bool { return s.symbols[symbol] }

// isVariable reports whether a symbol is an active variable.
func (s *state) isVariable(symbol string) bool {
	for _, x := range s.levels {
		if x.declared[symbol] {
			return true
		}
	}
	return false
}

func (s *state) isActive(symbol string) bool { return s.isConstant(symbol) || s.isVariable(symbol) }

// isTyped reports whether a variable has an active floating hypothesis.
func (s *state) isTyped(variable string) bool {
	for _, x := range s.levels {
		if x.typed[variable] {
			return true
		}
	}
	return false
}

// apart returns the pairs of all active disjointness.
func (s *state) apart() []api.Pair {
	seen := map[api.Pair]bool{}
	var pairs []api.Pair
	for _, x := range s.levels {
		for _, l := range x.disjoint {
			for _, p := range Pairs(l) {
				if !seen[p] {
					seen[p] = true
					pairs = append(pairs, p)
				}
			}
		}
	}
	return Join(pairs, nil)
}

func (s *state) open(x api.Statement) error {
	if s.depth() >= api.MaxDepth {
		return s.broken(api.ErrDepth)
	}
	s.enter()
	return nil
}

func (s *state) close(x api.Statement) error {
	if s.depth() == 0 {
		return s.broken(ErrScopes)
	}
	s.levels = s.levels[:len(s.levels)-1]
	return nil
}

func (s *state) declareConstants(x api.Statement) error {
	if s.depth() > 0 {
		return s.broken(ErrNested)
	}
	for _, c := range x.Text {
		if _, known := s.symbols[c]; known || s.labels[c] {
			return s.broken(ErrDeclared)
		}
		s.symbols[c] = true
		s.constants = append(s.constants, c)
	}
	return nil
}

func (s *state) declareVariables(x api.Statement) error {
	for _, v := range x.Text {
		if s.isActive(v) || s.labels[v] {
			return s.broken(ErrDeclared)
		}
		s.symbols[v] = false
		t := s.top()
		t.declared[v] = true
		t.variables = append(t.variables, v)
	}
	return nil
}

func (s *state) separate(x api.Statement) error {
	if len(x.Text) < 2 {
		return s.broken(ErrDisjoint)
	}
	seen := map[string]bool{}
	for _, v := range x.Text {
		switch {
		case !s.isActive(v):
			return s.broken(ErrActive)
		case s.isConstant(v), seen[v]:
			return s.broken(ErrDisjoint)
		}
		seen[v] = true
	}
	t := s.top()
	t.disjoint = append(t.disjoint, x.Text)
	return nil
}

// label checks the label of a statement and the first symbol of its Text.
func (s *state) label(x api.Statement) error {
	_, known := s.symbols[x.Label]
	switch {
	case known, s.labels[x.Label]:
		return s.broken(ErrLabel)
	case !s.isActive(x.Text[0]):
		return s.broken(ErrActive)
	case !s.isConstant(x.Text[0]):
		return s.broken(ErrConstant)
	}
	s.labels[x.Label] = true
	return nil
}

func (s *state) float(x api.Statement) error {
	if err := s.label(x); err != nil {
		return err
	}
	code, v := x.Text[0], x.Text[1]
	old, known := s.types[v]
	switch {
	case !s.isActive(v):
		return s.broken(ErrActive)
	case s.isConstant(v):
		return s.broken(ErrConstant)
	case s.isTyped(v), known && old != code:
		return s.broken(ErrTyped)
	}
	s.types[v] = code
	t := s.top()
	t.typed[v] = true
	t.hyps = append(t.hyps, api.Hyp{Label: x.Label, Floating: true, Text: x.Text})
	return nil
}

// assert checks a statement with a label and a formula.
func (s *state) assert(x api.Statement) error {
	if err := s.label(x); err != nil {
		return err
	}
	for _, symbol := range x.Text[1:] {
		switch {
		case !s.isActive(symbol):
			return s.broken(ErrActive)
		case !s.isConstant(symbol) && !s.isTyped(symbol):
			return s.broken(ErrTyped)
		}
	}
	return nil
}

func (s *state) assume(x api.Statement) error {
	if err := s.assert(x); err != nil {
		return err
	}
	t := s.top()
	t.hyps = append(t.hyps, api.Hyp{Label: x.Label, Text: x.Text})
	return nil
}
