package source

import (
	"iter"
	"slices"
	"strings"

	"apodixis/api"
)

// failure is what reading leaves with, from whatever depth of files.
type failure struct {
	Fault
	code api.Errno
}

// Read reads a file and all files that it includes.
func Read(files map[string]string, main string) (Unit, Fault, api.Errno) {
	if _, ok := files[main]; !ok {
		return Unit{}, Fault{File: main}, ErrFile
	}
	r := reader{files: files}
	if fault, e := r.read(main); e != api.OK {
		return Unit{}, fault, e
	}
	return r.unit, Fault{}, api.OK
}

// read takes a file with all that it includes, or returns the first error.
func (r *reader) read(main string) (fault Fault, e api.Errno) {
	defer func() {
		if f, ok := recover().(failure); ok {
			fault, e = f.Fault, f.code
		}
	}()
	var take func(name string)
	take = func(name string) {
		number := len(r.unit.Files)
		r.unit.Files = append(r.unit.Files, name)
		words, comments, at, e := Strip(r.files[name])
		if e != api.OK {
			r.fail(number, at, e)
		}
		closing := -1 // the index of the last word of the include command that is being read
		for i, isWord := range merge(words, comments) {
			if !isWord {
				r.comment(number, comments[i])
				continue
			}
			w := words[i]
			switch {
			case i < closing:
			case i == closing:
				r.include(take, number, words[i-2:i])
			case w.Text == "$]":
				r.fail(number, w.At, ErrClose)
			case w.Text == "$[":
				r.command(number, words[i:])
				closing = i + 2
			default:
				r.word(Word{Text: w.Text, Place: Place{File: number, At: w.At}})
			}
		}
	}
	take(main)
	return Fault{}, api.OK
}

// merge yields the indices of the words and of the comments of a file in the order of their offsets; with each one, whether it is that of a word.
func merge(words []api.Token, comments []Comment) iter.Seq2[int, bool] {
	return func(yield func(int, bool) bool) {
		next := 0
		for i, c := range comments {
			for ; next < c.Before; next++ {
				if !yield(next, true) {
					return
				}
			}
			if !yield(i, false) {
				return
			}
		}
		for ; next < len(words); next++ {
			if !yield(next, true) {
				return
			}
		}
	}
}

// reader is a unit that is being read.
type reader struct {
	files  map[string]string
	unit   Unit
	scopes int // how many more scopes were opened than closed
}

func (r *reader) fail(file, at int, e api.Errno) {
	panic(failure{Fault{File: r.unit.Files[file], At: at}, e})
}

// between reports whether the words so far end between statements in the outermost scope.
func (r *reader) between() bool {
	n := len(r.unit.Words)
	if n == 0 {
		return true
	}
	last := r.unit.Words[n-1].Text
	return (last == "$." || last == "$}") && r.scopes <= 0
}

func (r *reader) comment(file int, c Comment) {
	c.File = file
	c.Before = len(r.unit.Words)
	r.unit.Comments = append(r.unit.Comments, c)
}

func (r *reader) word(w Word) {
	if len(r.unit.Words) >= api.MaxTokens {
		r.fail(w.File, w.At, api.ErrFull)
	}
	switch w.Text {
	case "${":
		r.scopes++
	case "$}":
		r.scopes--
	}
	r.unit.Words = append(r.unit.Words, w)
}

// command checks the place and the form of the include command that a file's words begin with.
func (r *reader) command(file int, words []api.Token) {
	at := words[0].At
	if !r.between() {
		r.fail(file, at, ErrInclude)
	}
	if len(words) < 3 {
		r.fail(file, at, ErrOpen)
	}
	if strings.Contains(words[1].Text, "$") || words[2].Text != "$]" {
		r.fail(file, at, ErrInclude)
	}
}

// include executes an include command, given its first two words.
func (r *reader) include(take func(string), file int, words []api.Token) {
	name := words[1].Text
	if slices.Contains(r.unit.Files, name) {
		return
	}
	text, ok := r.files[name]
	if !ok {
		r.fail(file, words[1].At, ErrFile)
	}
	taken := len(r.unit.Files)
	if taken >= MaxFiles {
		r.fail(file, words[0].At, api.ErrFull)
	}
	take(name)
	if !r.between() {
		r.fail(taken, len(text), ErrInclude)
	}
}
