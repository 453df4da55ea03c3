package carry

import (
	"slices"

	"apodixis/api"
	"apodixis/book"
	"apodixis/frame"
	"apodixis/grammar"
)

// room is a database with a right logic: its assertions, what its rules, axioms and syntax axioms are, and the holes of the forms, by the labels of the variables that fill them.
type room struct {
	book   *book.Book
	logic  Logic
	frames map[string]api.Frame
	fields map[string]int
	signs  map[string]byte
	holes  [assertions]map[byte]string
}

// opened returns the book of a settled database, or the error of this. Without a grammar there is no book.
func opened(db api.Database) (*book.Book, api.Errno) {
	if e := frame.Check(db); e != api.OK {
		return nil, e
	}
	if !frame.Settled(db) {
		return nil, api.ErrState
	}
	b, e := book.Open(db)
	if e != api.OK {
		return nil, api.OK
	}
	return b, api.OK
}

// enter returns the room of a database and a logic, or the error of Check.
func enter(db api.Database, l Logic) (*room, api.Errno) {
	b, e := opened(db)
	if e != api.OK {
		return nil, e
	}
	if b == nil {
		return nil, ErrLogic
	}
	r := &room{book: b, logic: l, frames: map[string]api.Frame{}, fields: map[string]int{}, signs: map[string]byte{}}
	for _, f := range db.Frames {
		r.frames[f.Label] = f
	}
	if !r.syntax() || !r.forms() {
		return nil, ErrLogic
	}
	return r, api.OK
}

// syntax reports whether the syntax axioms of the logic are right, and Set, too.
func (r *room) syntax() bool {
	l := &r.logic
	m := matcher{book: r.book, logic: *l}
	for _, sign := range []byte(signs) {
		label := *l.syntax(sign)
		if label == "" {
			continue
		}
		if _, twice := r.signs[label]; twice || !m.isRight(sign, label) {
			return false
		}
		r.signs[label] = sign
	}
	needsSet, binds := l.All+l.Some+l.Eq != "", l.All+l.Some != ""
	isTerm := func(x grammar.Rule) bool { return !x.Variable && x.Sort == l.Set }
	return l.Imp != "" && l.Set != grammar.Formula && !(needsSet && l.Set == "") && !(binds && slices.ContainsFunc(r.book.Grammar.Rules, isTerm))
}

// forms reports whether the rules and axioms of the logic have their forms.
func (r *room) forms() bool {
	for n, label := range r.logic.assertions() {
		if *label == "" {
			continue
		}
		m := matcher{book: r.book, logic: r.logic, holes: map[byte]string{}}
		f, ok := r.frames[*label]
		if !ok || !m.fits(n, f) {
			return false
		}
		r.fields[*label], r.holes[n] = n, m.holes
	}
	return r.logic.Mp != ""
}
