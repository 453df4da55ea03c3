// Package book has what several layers need to work on one database: the trees of its formulas, each formula parsed once, and steps of proofs, of which equal ones are one. What a Book returns is not to be changed.
package book

import (
	"iter"
	"strconv"

	"apodixis/api"
	"apodixis/grammar"
	"apodixis/syntax"
)

// Book has the grammar of a database, and the trees of the formulas that were read.
type Book struct {
	Database api.Database
	Grammar  grammar.Grammar
	rules    map[string]grammar.Rule
	labels   map[string]string // those of the variables' rules, by the variables
	small    api.Database
	known    map[string]reading
}

// reading is the tree of a formula, or its error.
type reading struct {
	tree api.Tree
	e    api.Errno
}

// Open returns the book of a database, or the error of its grammar.
func Open(db api.Database) (*Book, api.Errno) {
	g, e := grammar.Of(db)
	if e != api.OK {
		return nil, e
	}
	b := &Book{Database: db, Grammar: g, rules: map[string]grammar.Rule{}, labels: map[string]string{}, known: map[string]reading{}}
	for _, r := range g.Rules {
		b.rules[r.Label] = r
		if r.Variable {
			b.labels[r.Parts[0].Symbol] = r.Label
		}
	}
	b.small = b.Part(nil)
	return b, api.OK
}

// Part returns a database with the same grammar that has no assertions but the axioms of syntax and those with certain labels, and no proofs. Each function of a lower layer checks its whole database, which would take longer than what it does.
func (b *Book) Part(labels map[string]bool) api.Database {
	part := api.Database{Constants: b.Database.Constants, Variables: b.Database.Variables}
	for _, f := range b.Database.Frames {
		if _, ok := b.rules[f.Label]; ok || labels[f.Label] {
			f.Proof = nil
			part.Frames = append(part.Frames, f)
		}
	}
	if len(part.Frames) == 0 && len(b.Database.Frames) > 0 { // only a frame tells the sorts of variables
		f := b.Database.Frames[0]
		f.Proof = nil
		part.Frames = []api.Frame{f}
	}
	return part
}

// Tree returns what syntax.Tree returns.
func (b *Book) Tree(formula []string) (api.Tree, api.Errno) {
	k := key(formula)
	r, ok := b.known[k]
	if !ok {
		r.tree, r.e = syntax.Tree(b.small, formula)
		b.known[k] = r
	}
	return r.tree, r.e
}

// key returns a text that no other formula has.
func key(formula []string) string {
	var text []byte
	for _, s := range formula {
		text = strconv.AppendInt(text, int64(len(s)), 10)
		text = append(text, ' ')
		text = append(text, s...)
	}
	return string(text)
}

// Rule returns the rule with a label.
func (b *Book) Rule(label string) (grammar.Rule, bool) {
	r, ok := b.rules[label]
	return r, ok
}

// LabelOf returns the label of a variable.
func (b *Book) LabelOf(variable string) string { return b.labels[variable] }

// Permitted returns the disjoint pairs of a theorem of the database, each by its labels in their order.
func (b *Book) Permitted(theorem api.Frame) map[api.Pair]bool {
	l := map[api.Pair]bool{}
	for _, p := range theorem.Wide {
		x, y := b.labels[p.A], b.labels[p.B]
		l[api.Pair{A: min(x, y), B: max(x, y)}] = true
	}
	return l
}

// IsVariable reports whether a label is that of a variable.
func (b *Book) IsVariable(label string) bool { return b.rules[label].Variable }

// Symbols yields the symbols of a tree of the database, which may be of any size.
func (b *Book) Symbols(t api.Tree) iter.Seq[string] {
	return func(yield func(string) bool) {
		var walk func(t api.Tree) bool
		walk = func(t api.Tree) bool {
			for _, p := range b.rules[t.Label].Parts {
				if p.Sort == "" && !yield(p.Symbol) || p.Sort != "" && !walk(t.Kids[p.Arg]) {
					return false
				}
			}
			return true
		}
		walk(t)
	}
}

// Nodes yields the parts of a tree, each ahead of its Kids.
func Nodes(t api.Tree) iter.Seq[api.Tree] {
	return func(yield func(api.Tree) bool) {
		var walk func(t api.Tree) bool
		walk = func(t api.Tree) bool {
			if !yield(t) {
				return false
			}
			for _, k := range t.Kids {
				if !walk(k) {
					return false
				}
			}
			return true
		}
		walk(t)
	}
}
