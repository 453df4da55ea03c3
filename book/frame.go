package book

import (
	"slices"

	"apodixis/api"
	"apodixis/grammar"
)

// Premises returns the essential hypotheses of an assertion.
func Premises(f api.Frame) []api.Hyp {
	isFloating := func(h api.Hyp) bool { return h.Floating }
	return slices.DeleteFunc(slices.Clone(f.Hyps), isFloating)
}

// IsAsserted reports whether a formula has the turnstile.
func IsAsserted(text []string) bool { return text[0] == grammar.Turnstile }

// HasOther reports whether an assertion has a premise without the turnstile.
func HasOther(f api.Frame) bool {
	return slices.ContainsFunc(Premises(f), func(h api.Hyp) bool { return !IsAsserted(h.Text) })
}

// Copy returns a tree as new memory.
func Copy(t api.Tree) api.Tree {
	result := api.Tree{Label: t.Label}
	for _, k := range t.Kids {
		result.Kids = append(result.Kids, Copy(k))
	}
	return result
}

// CopyDatabase returns a database as new memory.
func CopyDatabase(db api.Database) api.Database {
	hyps := func(l []api.Hyp) []api.Hyp {
		l = slices.Clone(l)
		for i := range l {
			l[i].Text = slices.Clone(l[i].Text)
		}
		return l
	}
	result := api.Database{Constants: slices.Clone(db.Constants), Variables: slices.Clone(db.Variables)}
	for _, f := range db.Frames {
		f.Hyps, f.Dummies = hyps(f.Hyps), hyps(f.Dummies)
		f.Apart, f.Wide = slices.Clone(f.Apart), slices.Clone(f.Wide)
		f.Text, f.Proof = slices.Clone(f.Text), slices.Clone(f.Proof)
		result.Frames = append(result.Frames, f)
	}
	return result
}
