package carry

import (
	"slices"
	"strings"

	"apodixis/api"
	"apodixis/book"
	"apodixis/grammar"
	"apodixis/meaning"
)

// Fields of a logic that name rules and axioms.
const (
	mp = iota
	gen
	simp
	frege
	transp
	dist
	vacuous
	spec
	refl
	eucl
	assertions // how many there are
)

// assertions returns where the labels of rules and axioms stand.
func (l *Logic) assertions() [assertions]*string {
	return [assertions]*string{
		mp: &l.Mp, gen: &l.Gen, simp: &l.Simp, frege: &l.Frege, transp: &l.Transp,
		dist: &l.Dist, vacuous: &l.Vacuous, spec: &l.Spec, refl: &l.Refl, eucl: &l.Eucl,
	}
}

// signs are those of the syntax axioms of a logic: Imp, Not, And, Or, False, All, Some and Eq.
const signs = ">~&|FAE="

// syntax returns where the label of the syntax axiom with a sign stands.
func (l *Logic) syntax(sign byte) *string {
	fields := [...]*string{&l.Imp, &l.Not, &l.And, &l.Or, &l.False, &l.All, &l.Some, &l.Eq}
	return fields[strings.IndexByte(signs, sign)]
}

// argsOf returns the arguments of a sign: w for a wff, x for an individual.
func argsOf(sign byte) string {
	switch sign {
	case '>', '&', '|':
		return "ww"
	case '~':
		return "w"
	case 'A', 'E':
		return "xw"
	case '=':
		return "xx"
	}
	return ""
}

// shape is a tree with holes: a sign with its arguments, or a hole for a variable, p, q or r for a wff, x, y or z for an individual.
type shape struct {
	sign byte
	args []shape
}

func (s shape) isHole() bool { return s.sign >= 'p' && s.sign <= 'z' }

// shapeOf returns the shape with a text, in which each sign stands ahead of its arguments.
func shapeOf(text string) shape {
	var read func() shape
	read = func() shape {
		s := shape{sign: text[0]}
		text = text[1:]
		for range argsOf(s.sign) {
			s.args = append(s.args, read())
		}
		return s
	}
	return read()
}

// form is what a rule or an axiom looks like: the shapes of its premises and of its formula.
type form struct {
	premises []string
	goal     string
}

// forms returns the forms of the fields of a logic.
func forms() [assertions]form {
	return [assertions]form{
		mp:      {[]string{"p", ">pq"}, "q"}, // the premises in either order
		gen:     {[]string{"p"}, "Axp"},
		simp:    {nil, ">p>qp"},
		frege:   {nil, ">>p>qr>>pq>pr"},
		transp:  {nil, ">>~p~q>qp"},
		dist:    {nil, ">Ax>pq>AxpAxq"},
		vacuous: {nil, ">pAxp"},
		spec:    {nil, ">Axpp"},
		refl:    {nil, "=xx"},
		eucl:    {nil, ">=xy>=xz=yz"},
	}
}

// matcher holds an assertion against a form. Labels of syntax axioms whose signs are in open, and the typecode Set, are found where the logic does not have them.
type matcher struct {
	book  *book.Book
	logic Logic
	open  string
	holes map[byte]string // the labels of variables
}

// fits reports whether an assertion has the form of a field, and fills the holes.
func (m *matcher) fits(field int, f api.Frame) bool {
	want, premises := forms()[field], book.Premises(f)
	if len(premises) != len(want.premises) {
		return false
	}
	trees := []api.Tree{}
	for _, text := range append(texts(premises), f.Text) {
		if !book.IsAsserted(text) {
			return false
		}
		t, e := m.book.Tree(text)
		if e != api.OK {
			return false
		}
		trees = append(trees, t)
	}
	if field == mp && !m.book.IsVariable(trees[0].Label) {
		trees[0], trees[1] = trees[1], trees[0]
	}
	for n, text := range append(want.premises, want.goal) {
		if !m.matches(shapeOf(text), trees[n]) {
			return false
		}
	}
	return slices.Equal(f.Apart, m.apart(field))
}

// texts returns the formulas of hypotheses.
func texts(l []api.Hyp) [][]string {
	var result [][]string
	for _, h := range l {
		result = append(result, h.Text)
	}
	return result
}

// apart returns the disjoint pairs of a field's assertion whose holes are filled.
func (m *matcher) apart(field int) []api.Pair {
	if field != vacuous {
		return nil
	}
	p, x := m.variable('p'), m.variable('x')
	return []api.Pair{{A: min(p, x), B: max(p, x)}}
}

// variable returns the variable in a hole.
func (m *matcher) variable(hole byte) string {
	r, _ := m.book.Rule(m.holes[hole])
	return r.Parts[0].Symbol
}

// matches reports whether a tree has a shape.
func (m *matcher) matches(s shape, t api.Tree) bool {
	var match func(s shape, t api.Tree) bool
	match = func(s shape, t api.Tree) bool {
		if s.isHole() {
			return m.fill(s.sign, t.Label)
		}
		if !m.names(s.sign, t.Label) {
			return false
		}
		r, _ := m.book.Rule(t.Label)
		for n, a := range meaning.Args(r) {
			if !match(s.args[n], t.Kids[a.Arg]) {
				return false
			}
		}
		return true
	}
	return match(s, t)
}

// fill reports whether a label may be that of the variable in a hole.
func (m *matcher) fill(hole byte, label string) bool {
	sort := grammar.Formula
	if hole >= 'x' {
		sort = m.logic.Set
	}
	r, _ := m.book.Rule(label)
	if !r.Variable || r.Sort != sort {
		return false
	}
	for other, l := range m.holes {
		if (other == hole) != (l == label) {
			return false
		}
	}
	m.holes[hole] = label
	return true
}

// names reports whether a label is, or may become, that of the syntax axiom with a sign.
func (m *matcher) names(sign byte, label string) bool {
	field := m.logic.syntax(sign)
	if *field == "" && strings.IndexByte(m.open, sign) >= 0 && m.isRight(sign, label) {
		*field = label
	}
	return *field != "" && *field == label
}

// isRight reports whether a label is that of a syntax axiom with the arguments of a sign.
func (m *matcher) isRight(sign byte, label string) bool {
	r, ok := m.book.Rule(label)
	args, want := meaning.Args(r), argsOf(sign)
	if !ok || r.Variable || r.Sort != grammar.Formula || len(args) != len(want) {
		return false
	}
	for n, a := range args {
		if want[n] == 'x' && m.logic.Set == "" && m.open != "" && a.Sort != grammar.Formula {
			m.logic.Set = a.Sort
		}
		if (want[n] == 'w') != (a.Sort == grammar.Formula) || want[n] == 'x' && a.Sort != m.logic.Set {
			return false
		}
	}
	return true
}
