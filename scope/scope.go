// Package scope is layer 4: scopes, and the rules that statements have to keep. See shared/doc/04-scope.md.
package scope

import (
	"errors"
	"slices"

	"apodixis/api"
)

// Codes of layer 4.
const (
	ErrNested   api.Errno = 60 // a constant that is declared in an inner scope
	ErrDeclared api.Errno = 61 // a symbol that is declared already, or is a label
	ErrLabel    api.Errno = 62 // a label that is used already, or is a math symbol
	ErrActive   api.Errno = 63 // a symbol that is not active
	ErrConstant api.Errno = 64 // a formula that does not begin with a constant, or a floating hypothesis of something else than a variable
	ErrTyped    api.Errno = 65 // a variable without an active floating hypothesis, with a second one, or with another typecode than before
	ErrDisjoint api.Errno = 66 // a disjointness statement without two variables, with one twice, or with another symbol
	ErrScopes   api.Errno = 67 // a scope that is closed without being open, or is not closed
)

// Active is what is active at a place: the constants, the variables and the hypotheses in the order of their statements, the disjointness, and the number of open scopes.
type Active struct {
	Constants, Variables []string
	Hyps                 []api.Hyp
	Apart                []api.Pair
	Depth                int
}

// Check returns the index of the first statement that breaks a rule, and its error.
func Check(l []api.Statement) (int, api.Errno) {
	if len(l) > api.MaxStatements {
		return 0, api.ErrFull
	}
	s, err := run(l)
	var b broken
	if errors.As(err, &b) {
		return b.at, b.code
	}
	if s.depth() > 0 {
		return s.top().begin, ErrScopes
	}
	return 0, api.OK
}

// At returns what is active ahead of the statement with an index.
func At(l []api.Statement, i int) (Active, api.Errno) {
	if i < 0 || i > len(l) {
		return Active{}, api.ErrRange
	}
	if i > api.MaxStatements {
		return Active{}, api.ErrFull
	}
	s, err := run(l[:i])
	var b broken
	if errors.As(err, &b) {
		return Active{}, b.code
	}
	a := Active{Constants: slices.Clone(s.constants), Depth: s.depth()}
	for _, x := range s.levels {
		a.Variables = append(a.Variables, x.variables...)
		for _, h := range x.hyps {
			h.Text = slices.Clone(h.Text)
			a.Hyps = append(a.Hyps, h)
		}
	}
	a.Apart = s.apart()
	return a, api.OK
}

// Scope returns the index of the statement that closes the scope which a statement opens, and the other way round.
func Scope(l []api.Statement, i int) (int, api.Errno) {
	if i < 0 || i >= len(l) {
		return 0, api.ErrRange
	}
	direction := 1
	switch l[i].Kind {
	case api.Open:
	case api.Close:
		direction = -1
	default:
		return 0, api.ErrArg
	}
	depth := 0
	for j := i; j >= 0 && j < len(l); j += direction {
		switch l[j].Kind {
		case api.Open:
			depth++
		case api.Close:
			depth--
		}
		if depth == 0 {
			return j, api.OK
		}
	}
	return 0, api.ErrNone
}

// Labels returns the labels of all statements, in order.
func Labels(l []api.Statement) []string {
	var labels []string
	for _, s := range l {
		switch s.Kind {
		case api.Floating, api.Essential, api.Axiom, api.Theorem:
			labels = append(labels, s.Label)
		}
	}
	return labels
}
