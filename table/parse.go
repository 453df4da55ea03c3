package table

import (
	"maps"
	"slices"

	"apodixis/api"
	"apodixis/grammar"
)

// maxSteps is how many symbols may be read and rules be reduced, together.
const maxSteps = 20000

// entry is a part that was read: the state behind it, and its tree, if it is an expression.
type entry struct {
	state int
	tree  api.Tree
	depth int
}

// ending is where parsing ends, and how.
type ending struct {
	read int
	e    api.Errno
}

// parser reads a text by a table.
type parser struct {
	rules    *rules
	table    Table
	edges    edges
	complete []map[string]Item // of each state, the items that are reduced, by their Next
	text     []string
	read     int
	steps    int
	stack    []entry
}

func newParser(r *rules, t Table, text []string) *parser {
	p := &parser{rules: r, table: t, text: text, stack: []entry{{}}}
	p.edges, _ = newEdges(t)
	for _, state := range t.States {
		complete := map[string]Item{}
		for _, x := range state {
			if _, ok := r.behind(x); !ok {
				complete[x.Next] = x
			}
		}
		p.complete = append(p.complete, complete)
	}
	return p
}

// run works until it ends, or leaves by a panic with its ending.
func (p *parser) run(work func()) (end ending) {
	end = ending{e: api.ErrState} // whatever else stops the work, it does not end as OK
	defer func() {
		if x, ok := recover().(ending); ok {
			end = x
		}
	}()
	work()
	return ending{}
}

// top returns the last entry.
func (p *parser) top() entry { return p.stack[len(p.stack)-1] }

// count counts a symbol or a reduction.
func (p *parser) count() {
	if p.steps == maxSteps {
		panic(ending{0, api.ErrSteps})
	}
	p.steps++
}

// step reduces an item or reads a symbol; true, if the whole was reduced.
func (p *parser) step() bool {
	next := ""
	if p.read < len(p.text) {
		next = p.text[p.read]
		if next == "" {
			panic(ending{p.read, ErrParse})
		}
	}
	x, ok := p.complete[p.top().state][next]
	if ok && x.Rule == whole {
		return true
	}
	if ok {
		p.count()
		p.reduce(x.Rule)
		return false
	}
	to, ok := p.edges[from{p.top().state, step{next, false}}]
	if !ok {
		panic(ending{p.read, ErrParse})
	}
	p.count()
	p.stack = append(p.stack, entry{state: to})
	p.read++
	return false
}

// reduce makes a tree of the parts of a rule.
func (p *parser) reduce(rule int) {
	r := p.rules.g.Rules[rule]
	n := len(p.stack)
	entries := p.stack[n-len(r.Parts) : n : n]
	p.stack = p.stack[:n-len(r.Parts)]
	t, depth := api.Tree{Label: r.Label}, 1
	args := 0
	for i, x := range r.Parts {
		if x.Sort != "" {
			args++
			depth = max(depth, entries[i].depth+1)
		}
	}
	t.Kids = make([]api.Tree, args)
	for i, x := range r.Parts {
		if x.Sort != "" {
			t.Kids[x.Arg] = entries[i].tree
		}
	}
	to := p.edges[from{p.top().state, step{r.Sort, true}}]
	p.stack = append(p.stack, entry{to, t, depth})
}

// open returns the parser of a text, or its error.
func open(g grammar.Grammar, t Table, text []string) (*parser, api.Errno) {
	if e := grammar.Check(g); e != api.OK {
		return nil, e
	}
	r := newRules(g, t.Sort)
	if e := check(r, t); e != api.OK {
		return nil, e
	}
	if len(text) > api.MaxSymbols {
		return nil, api.ErrSize
	}
	return newParser(r, t, text), api.OK
}

// Parse returns the tree of a text, or the place of the first symbol that is wrong.
func Parse(g grammar.Grammar, t Table, text []string) (api.Tree, int, api.Errno) {
	p, e := open(g, t, text)
	if e != api.OK {
		return api.Tree{}, 0, e
	}
	end := p.run(func() {
		for !p.step() {
		}
	})
	if end.e != api.OK {
		return api.Tree{}, end.read, end.e
	}
	if p.top().depth > api.MaxDepth {
		return api.Tree{}, 0, api.ErrDepth
	}
	return p.top().tree, 0, api.OK
}

// Expected returns the symbols that can follow a text at a state's beginning of the table; the empty text is the end.
func Expected(g grammar.Grammar, t Table, text []string) ([]string, api.Errno) {
	p, e := open(g, t, text)
	if e != api.OK {
		return nil, e
	}
	end := p.run(func() {
		for p.read < len(text) {
			p.step()
		}
	})
	if end.e != api.OK {
		return nil, end.e
	}
	next := map[string]bool{}
	for _, x := range t.States[p.top().state] {
		part, ok := p.rules.behind(x)
		if !ok {
			next[x.Next] = true
		} else if part.Sort == "" {
			next[part.Symbol] = true
		}
	}
	return slices.Sorted(maps.Keys(next)), api.OK
}
