// Package meaning has what the layers between databases and the kernel share: formulas of the kernel that are built, copied and told apart, and what the variables of an assertion mean. It is no layer.
package meaning

import (
	"slices"
	"strconv"

	"apodixis/api"
	"apodixis/frame"
	"apodixis/natural"
)

// Implies returns A -> (B -> C) of A, B and C, and likewise of any number of formulas but none.
func Implies(l ...natural.Formula) natural.Formula {
	last := len(l) - 1
	f := l[last]
	for n := last - 1; n >= 0; n-- {
		f = natural.Formula{Kind: natural.Implies, Parts: []natural.Formula{l[n], f}}
	}
	return f
}

// False returns the formula False.
func False() natural.Formula { return natural.Formula{Kind: natural.False} }

// Not returns the implication of False.
func Not(f natural.Formula) natural.Formula { return Implies(f, False()) }

// Equal returns an equation.
func Equal(s, t natural.Term) natural.Formula {
	return natural.Formula{Kind: natural.Equal, Terms: []natural.Term{s, t}}
}

// Parameter returns the term of a name.
func Parameter(name string) natural.Term { return natural.Term{Name: name} }

// IsParameter reports whether a term is a name without arguments.
func IsParameter(t natural.Term) bool { return t.Name != "" && len(t.Args) == 0 }

// Copy returns a formula as new memory.
func Copy(f natural.Formula) natural.Formula {
	return natural.Formula{Kind: f.Kind, Name: f.Name, Terms: each(f.Terms, copyTerm), Parts: each(f.Parts, Copy)}
}

func copyTerm(t natural.Term) natural.Term {
	t.Args = each(t.Args, copyTerm)
	return t
}

// CopyAll returns formulas as new memory.
func CopyAll(l []natural.Formula) []natural.Formula { return each(l, Copy) }

// CopyDerivation returns a derivation as new memory.
func CopyDerivation(d natural.Derivation) natural.Derivation {
	d.Term, d.Formula, d.Kids = copyTerm(d.Term), Copy(d.Formula), each(d.Kids, CopyDerivation)
	return d
}

// each returns what a function makes of the elements of a list.
func each[T any](l []T, work func(T) T) []T {
	var result []T
	for _, x := range l {
		result = append(result, work(x))
	}
	return result
}

// Key returns a text that no other formula has, whatever the formula is.
func Key(f natural.Formula) string { return string(appendFormula(nil, f)) }

func appendFormula(text []byte, f natural.Formula) []byte {
	text = appendNode(text, f.Name, f.Kind, len(f.Terms), len(f.Parts))
	for _, t := range f.Terms {
		text = appendTerm(text, t)
	}
	for _, p := range f.Parts {
		text = appendFormula(text, p)
	}
	return text
}

func appendTerm(text []byte, t natural.Term) []byte {
	text = appendNode(text, t.Name, t.Index, len(t.Args))
	for _, a := range t.Args {
		text = appendTerm(text, a)
	}
	return text
}

func appendNode(text []byte, name string, numbers ...int) []byte {
	for _, n := range append(numbers, len(name)) {
		text = strconv.AppendInt(text, int64(n), 10)
		text = append(text, ' ')
	}
	return append(text, name...)
}

// Closing returns the names of the parameters over which a formula is closed in a database: those that are no labels, ascending.
func Closing(db api.Database, f natural.Formula) []string {
	isLabel := func(name string) bool { return frame.Find(db, name) >= 0 }
	return slices.DeleteFunc(natural.Free(f), isLabel)
}

// Fits reports whether a term has no more nodes, and is no deeper, than one that is well-formed.
func Fits(t natural.Term) bool {
	count := 0
	var walk func(t natural.Term, depth int) bool
	walk = func(t natural.Term, depth int) bool {
		count++
		if count > api.MaxNodes || depth > api.MaxDepth {
			return false
		}
		for _, a := range t.Args {
			if !walk(a, depth+1) {
				return false
			}
		}
		return true
	}
	return walk(t, 1)
}
