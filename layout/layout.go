// Package layout is layer 3: statements from words, and texts from statements. See shared/doc/03-layout.md.
package layout

import (
	"slices"

	"apodixis/api"
	"apodixis/token"
)

// Codes of layer 3.
const (
	ErrKeyword api.Errno = 50 // a word where a keyword or a label has to be, or a keyword where none may be
	ErrLabel   api.Errno = 51 // a label that is missing, superfluous, or has not the form of one
	ErrSymbol  api.Errno = 52 // a word that is not a math symbol
	ErrLength  api.Errno = 53 // a statement with too few or too many words
	ErrProof   api.Errno = 54 // a proof that is missing, or has a word that may not be in one
)

// form is what the statements of a kind have beside their keyword.
type form struct {
	keyword     string
	named       bool
	least, most int // math symbols
}

// forms is indexed by the kinds of statements; the first one is of none.
var forms = [10]form{
	api.Constants: {"$c", false, 1, api.MaxSymbols},
	api.Variables: {"$v", false, 1, api.MaxSymbols},
	api.Floating:  {"$f", true, 2, 2},
	api.Essential: {"$e", true, 1, api.MaxSymbols},
	api.Disjoint:  {"$d", false, 1, api.MaxSymbols},
	api.Axiom:     {"$a", true, 1, api.MaxSymbols},
	api.Theorem:   {"$p", true, 1, api.MaxSymbols},
	api.Open:      {"${", false, 0, 0},
	api.Close:     {"$}", false, 0, 0},
}

// kindOf returns the kind of statement that a keyword stands for, or 0.
func kindOf(keyword string) int {
	for kind, f := range forms {
		if f.keyword == keyword {
			return kind
		}
	}
	return 0
}

// isProofWord reports whether a word may stand in a proof.
func isProofWord(s string) bool {
	if s == "(" || s == ")" {
		return true
	}
	for i := range len(s) {
		// A proof word has no limit of length, so its bytes are labels one by one.
		if s[i] != '?' && !token.IsLabel(s[i:i+1]) {
			return false
		}
	}
	return s != ""
}

// isRight reports whether a statement is well-formed.
func isRight(s api.Statement) bool {
	if s.Kind < api.Constants || s.Kind > api.Close {
		return false
	}
	f := forms[s.Kind]
	switch {
	case f.named && !token.IsLabel(s.Label), !f.named && s.Label != "":
		return false
	case len(s.Text) < f.least || len(s.Text) > f.most:
		return false
	case s.Kind != api.Theorem && len(s.Proof) > 0:
		return false
	}
	return all(s.Text, token.IsSymbol) && all(s.Proof, isProofWord)
}

func all(words []string, good func(string) bool) bool {
	for _, w := range words {
		if !good(w) {
			return false
		}
	}
	return true
}

// Words returns the words of statements.
func Words(l []api.Statement) ([]string, api.Errno) {
	if len(l) > api.MaxStatements {
		return nil, api.ErrFull
	}
	size := 0
	for _, s := range l {
		if !isRight(s) {
			return nil, api.ErrForm
		}
		size += count(s)
	}
	if size > api.MaxTokens {
		return nil, api.ErrSize
	}
	words := make([]string, 0, size)
	for _, s := range l {
		words = append(words, spell(s)...)
	}
	return words, api.OK
}

// count returns the number of words of a well-formed statement.
func count(s api.Statement) int {
	switch {
	case s.Kind == api.Open || s.Kind == api.Close:
		return 1
	case s.Kind == api.Theorem:
		return len(s.Text) + len(s.Proof) + 4
	case forms[s.Kind].named:
		return len(s.Text) + 3
	}
	return len(s.Text) + 2
}

// spell returns the words of a well-formed statement.
func spell(s api.Statement) []string {
	words := make([]string, 0, count(s))
	f := forms[s.Kind]
	if f.named {
		words = append(words, s.Label)
	}
	words = append(words, f.keyword)
	if s.Kind == api.Open || s.Kind == api.Close {
		return words
	}
	words = append(words, s.Text...)
	if s.Kind == api.Theorem {
		words = append(words, "$=")
		words = append(words, s.Proof...)
	}
	return append(words, "$.")
}

// copied returns a statement that shares no memory with s.
func copied(s api.Statement) api.Statement {
	s.Text = slices.Clone(s.Text)
	s.Proof = slices.Clone(s.Proof)
	return s
}
