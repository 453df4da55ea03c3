// Package source is layer 2: comments, their marks, and included files. See shared/doc/02-source.md.
package source

import (
	"strings"

	"apodixis/api"
	"apodixis/token"
)

// Codes of layer 2.
const (
	ErrOpen    api.Errno = 40 // a comment, or an include command, that is not closed
	ErrClose   api.Errno = 41 // a closing keyword without its opening one
	ErrInside  api.Errno = 42 // a comment keyword inside of a comment, or inside of another token
	ErrInclude api.Errno = 43 // an include command of the wrong form, or in the wrong place
	ErrFile    api.Errno = 44 // a file that does not exist
	ErrMark    api.Errno = 45 // a mark of a comment that is not closed
)

// Limits.
const (
	MaxFiles = 40 // files of a unit
)

// Place is a byte offset in a file of a unit.
type Place struct{ File, At int }

// Word is a token outside of comments, and where it begins.
type Word struct {
	Text string
	Place
}

// Comment is a comment: the bytes between its keywords, where it begins, and the index of the word behind it.
type Comment struct {
	Text string
	Place
	Before int
}

// Unit is a set of files that were read as one: their names in the order in which they were taken, and all words and comments.
type Unit struct {
	Files    []string
	Words    []Word
	Comments []Comment
}

// Fault is the file and the byte offset of an error.
type Fault struct {
	File string
	At   int
}

// Strip returns the words of a single text outside of its comments, and the comments; include commands are words.
func Strip(text string) ([]api.Token, []Comment, int, api.Errno) {
	tokens, at, e := token.Scan(text)
	if e != api.OK {
		return nil, nil, at, e
	}
	var words []api.Token
	var comments []Comment
	begin, inside := 0, false
	for _, t := range tokens {
		opens, closes := t.Text == "$(", t.Text == "$)"
		switch {
		case hidesComment(t.Text), opens && inside:
			return nil, nil, t.At, ErrInside
		case closes && !inside:
			return nil, nil, t.At, ErrClose
		case opens:
			begin, inside = t.At, true
		case closes:
			comments = append(comments, Comment{Text: text[begin+2 : t.At], Place: Place{At: begin}, Before: len(words)})
			inside = false
		case !inside:
			words = append(words, t)
		}
	}
	if inside {
		return nil, nil, begin, ErrOpen
	}
	return words, comments, 0, api.OK
}

// hidesComment reports whether a comment keyword stands in a longer token.
func hidesComment(s string) bool {
	return len(s) > 2 && (strings.Contains(s, "$(") || strings.Contains(s, "$)"))
}

// Texts returns the texts of the words of a unit.
func Texts(u Unit) []string {
	texts := make([]string, len(u.Words))
	for i, w := range u.Words {
		texts[i] = w.Text
	}
	return texts
}

// Locate returns the file and the byte offset of a word of a unit.
func Locate(u Unit, word int) (Fault, api.Errno) {
	if word < 0 || word >= len(u.Words) {
		return Fault{}, api.ErrRange
	}
	w := u.Words[word]
	if w.File < 0 || w.File >= len(u.Files) {
		return Fault{}, api.ErrRange
	}
	return Fault{File: u.Files[w.File], At: w.At}, api.OK
}
