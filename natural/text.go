package natural

import (
	"slices"
	"strconv"
	"strings"

	"apodixis/api"
)

// Words of a text. Those of formulas are told by their Kinds, see signOf.
const (
	opening = "$("
	closing = "$)"
)

// signOf returns the word of a Kind other than Atom.
func signOf(kind int) string {
	switch kind {
	case Equal:
		return "$="
	case False:
		return "$F"
	case Implies:
		return "$>"
	case And:
		return "$&"
	case Or:
		return "$|"
	case All:
		return "$A"
	case Some:
		return "$E"
	}
	return ""
}

// kindOf returns the Kind that a word is the sign of; 0, if it is none.
func kindOf(word string) int {
	for kind := Equal; kind <= Some; kind++ {
		if signOf(kind) == word {
			return kind
		}
	}
	return 0
}

// writer writes a formula. The binders around a place have the first ones of its variables, the outermost one the first one.
type writer struct {
	words      []string
	parameters []string
	variables  []string
	next       int // the least number that is not looked at yet
}

// variable returns that of a binder with so many binders around it.
func (w *writer) variable(binders int) string {
	for len(w.variables) <= binders {
		name := "v" + strconv.Itoa(w.next)
		w.next++
		if _, ok := slices.BinarySearch(w.parameters, name); !ok {
			w.variables = append(w.variables, name)
		}
	}
	return w.variables[binders]
}

func (w *writer) put(word string) { w.words = append(w.words, word) }

func (w *writer) formula(f Formula, binders int) {
	s, _ := sentenceOf(f)
	switch s := s.(type) {
	case atom:
		w.list(s.name, s.terms, binders)
	case equation:
		w.put(signOf(Equal))
		w.term(s.left, binders)
		w.term(s.right, binders)
	case falsity:
		w.put(signOf(False))
	case joined:
		w.put(signOf(s.kind))
		w.formula(s.first, binders)
		w.formula(s.second, binders)
	case bound:
		w.put(signOf(s.kind))
		w.put(w.variable(binders))
		w.formula(s.part, binders+1)
	}
}

func (w *writer) term(t Term, binders int) {
	if t.Name == "" {
		w.put(w.variable(binders - 1 - t.Index))
		return
	}
	w.list(t.Name, t.Args, binders)
}

// list writes a name with terms.
func (w *writer) list(name string, l []Term, binders int) {
	w.put(name)
	if len(l) == 0 {
		return
	}
	w.put(opening)
	for _, t := range l {
		w.term(t, binders)
	}
	w.put(closing)
}

// Text returns the text of a formula, whose bound variables are named so that none is confused.
func Text(f Formula) (string, api.Errno) {
	if e := Well(f); e != api.OK {
		return "", e
	}
	w := writer{parameters: Free(f)}
	w.formula(f, 0)
	text := strings.Join(w.words, " ")
	if len(text) > api.MaxSource {
		return "", api.ErrLarge
	}
	return text, api.OK
}
