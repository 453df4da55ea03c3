package natural

import (
	"slices"

	"apodixis/api"
	"apodixis/token"
)

// Tasks of a parser.
const (
	readFormula = iota
	readTerm
	readArgs // terms up to the closing bracket
	leave    // the innermost binder
)

// task is something that is still to be read, and where it belongs.
type task struct {
	kind    int
	formula *Formula
	term    *Term
	args    *[]Term
}

// parser reads words, with the tasks that are left, the next one last, and the names of the binders around.
type parser struct {
	words   []api.Token
	end     int // the length of the text
	tasks   []task
	binders []string
}

// place returns the offset of the next word.
func (p *parser) place() int {
	if len(p.words) == 0 {
		return p.end
	}
	return p.words[0].At
}

// take returns the next word, or an empty one.
func (p *parser) take() string {
	if len(p.words) == 0 {
		return ""
	}
	word := p.words[0].Text
	p.words = p.words[1:]
	return word
}

// has takes the next word, if it is this one.
func (p *parser) has(word string) bool {
	is := len(p.words) > 0 && p.words[0].Text == word
	if is {
		p.words = p.words[1:]
	}
	return is
}

// name takes the next word, if it is a name.
func (p *parser) name() (string, bool) {
	if len(p.words) == 0 || !token.IsSymbol(p.words[0].Text) {
		return "", false
	}
	return p.take(), true
}

// do adds a task that is to be done ahead of the others.
func (p *parser) do(t task) { p.tasks = append(p.tasks, t) }

// run does all tasks; false, if the next word cannot be there.
func (p *parser) run() bool {
reading:
	for len(p.tasks) > 0 {
		last := len(p.tasks) - 1
		t := p.tasks[last]
		p.tasks = p.tasks[:last]
		ok := true
		switch t.kind {
		case leave:
			p.binders = p.binders[:len(p.binders)-1]
			continue reading
		case readArgs:
			if len(*t.args) > 0 && p.has(closing) {
				continue reading
			}
			*t.args = append(*t.args, Term{})
			p.do(t)
			p.do(task{kind: readTerm, term: &(*t.args)[len(*t.args)-1]})
		case readTerm:
			ok = p.term(t.term)
		case readFormula:
			ok = p.formula(t.formula)
		}
		if !ok {
			return false
		}
	}
	return len(p.words) == 0
}

// term reads the name of a term, and adds the task of its arguments.
func (p *parser) term(t *Term) bool {
	name, ok := p.name()
	if !ok {
		return false
	}
	t.Name = name
	if p.has(opening) {
		p.do(task{kind: readArgs, args: &t.Args})
		return true
	}
	for index, binder := range slices.Backward(p.binders) {
		if binder == name {
			*t = Term{Index: len(p.binders) - 1 - index}
			break
		}
	}
	return true
}

// formula reads the first word of a formula, and adds the tasks of what follows it.
func (p *parser) formula(f *Formula) bool {
	if name, ok := p.name(); ok {
		*f = atom{name: name}.formula()
		if p.has(opening) {
			p.do(task{kind: readArgs, args: &f.Terms})
		}
		return true
	}
	if len(p.words) == 0 || kindOf(p.words[0].Text) == 0 {
		return false
	}
	kind := kindOf(p.take())
	*f = Formula{Kind: kind, Terms: make([]Term, termsOf(kind)), Parts: make([]Formula, partsOf(kind))}
	if isBinder(kind) {
		name, ok := p.name()
		if !ok {
			return false
		}
		p.binders = append(p.binders, name)
		p.do(task{kind: leave})
	}
	for i := range slices.Backward(f.Terms) {
		p.do(task{kind: readTerm, term: &f.Terms[i]})
	}
	for i := range slices.Backward(f.Parts) {
		p.do(task{kind: readFormula, formula: &f.Parts[i]})
	}
	return true
}

// Parse returns the formula with a text, in which binders have names.
func Parse(s string) (Formula, int, api.Errno) {
	words, at, e := token.Scan(s)
	if e != api.OK {
		return Formula{}, at, e
	}
	var f Formula
	p := parser{words: words, end: len(s), tasks: []task{{kind: readFormula, formula: &f}}}
	if !p.run() {
		return Formula{}, p.place(), api.ErrForm
	}
	if e := Well(f); e != api.OK {
		return Formula{}, 0, e
	}
	return f, 0, api.OK
}
