package carry

import (
	"slices"
	"strconv"
	"strings"

	"apodixis/api"
	"apodixis/book"
	"apodixis/fault"
	"apodixis/meaning"
	"apodixis/natural"
)

// Limits of a derivation, as the kernel has them.
const (
	maxNodes = 8000
	maxDepth = 1000
)

// dummy begins the names of individuals that dummies become.
const dummy = "&"

// carrier carries the proof of a theorem over.
type carrier struct {
	room   *room
	result Carried
	closed [][]string     // the parameters over which each assumption was closed
	known  map[string]int // numbers of the theory's formulas, by their keys
	proofs map[string]proof
	passed map[string]passage
	taken  []int // numbers that make a symbol of the database behind dummy, ascending
	nodes  int   // of the derivation, as far as it is made
	named  int   // how many dummies have names
}

// carried returns the proof of a theorem whose verdict is OK, carried over.
func carried(r *room, i int) (Carried, api.Errno) {
	c := &carrier{room: r, known: map[string]int{}, proofs: map[string]proof{}, passed: map[string]passage{}}
	e := fault.Guard(ErrSyntax, func() { c.run(r.book.Database.Frames[i]) })
	if e != api.OK {
		return Carried{}, e
	}
	return c.result, api.OK
}

// run makes the result for a theorem.
func (c *carrier) run(f api.Frame) {
	m := meaning.Of(c.room.book, c.room.logic.Set, f)
	for _, h := range book.Premises(f) {
		g, names := c.closing(h.Text, m)
		c.result.Assumptions, c.closed = append(c.result.Assumptions, g), append(c.closed, names)
	}
	c.result.Conclusion = c.translated(f.Text, m)
	c.take()
	top := &level{proof: c.proofOf(f.Label), frame: f, meanings: m, trees: map[int]meaning.Meaning{}}
	c.result.Derivation = c.derive(top, len(top.steps)-1)
	c.check()
}

// check leaves with the error of the derivation for the kernel.
func (c *carrier) check() {
	_, depth := natural.Size(c.result.Derivation)
	fault.Require(depth <= maxDepth, api.ErrLarge)
	f, _, e := natural.Check(c.result.Theory, c.result.Assumptions, c.result.Derivation)
	fault.Require(e != api.ErrLarge, api.ErrLarge)
	fault.Require(e == api.OK && natural.Same(f, c.result.Conclusion), ErrSyntax)
}

// translated returns the translation of a formula.
func (c *carrier) translated(text []string, m meanings) natural.Formula {
	f, e := c.room.formulaOf(text, m)
	fault.Pass(e)
	return f
}

// closing returns the closed translation of a formula, and the parameters over which it is closed.
func (c *carrier) closing(text []string, m meanings) (natural.Formula, []string) {
	f, names, e := c.room.closed(c.translated(text, m))
	fault.Pass(e)
	return f, names
}

// count counts nodes of the derivation.
func (c *carrier) count(nodes int) {
	c.nodes += nodes
	fault.Require(c.nodes <= maxNodes, api.ErrLarge)
}

// derive returns the derivation of a step. That of a theorem which is put in is the one of its last step, and that of a premise there the one of a step of the proof around.
func (c *carrier) derive(l *level, step int) natural.Derivation {
	for {
		x := l.steps[step]
		n := slices.IndexFunc(book.Premises(l.frame), func(h api.Hyp) bool { return h.Label == x.Label })
		if n >= 0 && l.outer == nil {
			return c.specialized(use(len(c.closed)-1-n), c.closed[n])
		}
		if n >= 0 {
			c.leave(l, x.Label)
			l, step = l.outer, l.premises[x.Label]
			continue
		}
		f, ok := c.room.frames[x.Label]
		fault.Require(ok && book.IsAsserted(f.Text), ErrSyntax)
		m := c.floating(l, x, f)
		field, named := c.room.fields[x.Label]
		switch {
		case named && (field == mp || field == gen):
			return c.rule(l, x, f, m)
		case named:
			return c.axiom(field, m)
		case !f.Theorem:
			return c.other(f, m)
		}
		l, step = c.put(l, x, f, m)
	}
}

// floating returns what the mandatory variables of an assertion mean in a step.
func (c *carrier) floating(l *level, x api.Step, f api.Frame) meanings {
	m := meanings{}
	for n, h := range f.Hyps {
		if h.Floating {
			m[h.Label] = c.meaning(l, x.Args[n])
		}
	}
	return m
}

// rule returns the derivation of a step of Mp or Gen.
func (c *carrier) rule(l *level, x api.Step, f api.Frame, m meanings) natural.Derivation {
	c.count(1)
	var premises []natural.Derivation
	for n, h := range f.Hyps {
		if !h.Floating {
			premises = append(premises, c.derive(l, x.Args[n]))
		}
	}
	switch {
	case len(premises) == 1:
		return allIn(m[c.room.holes[gen]['x']].Term, premises[0])
	case meaning.MinorFirst(c.room.book, f):
		return apply(premises[1], premises[0])
	}
	return apply(premises[0], premises[1])
}

// axiom returns the derivation of a step of an axiom of the logic.
func (c *carrier) axiom(field int, m meanings) natural.Derivation {
	d, e := c.room.axiom(field, m)
	fault.Pass(e)
	nodes, _ := natural.Size(d)
	c.count(nodes)
	return d
}

// other returns the derivation of a step of another axiom, which becomes one of the theory.
func (c *carrier) other(f api.Frame, m meanings) natural.Derivation {
	fault.Require(len(book.Premises(f)) == 0, ErrRule)
	g, names := c.closing(f.Text, m)
	key := meaning.Key(g)
	n, ok := c.known[key]
	if !ok {
		n = len(c.result.Theory)
		c.known[key] = n
		c.result.Theory, c.result.Labels = append(c.result.Theory, g), append(c.result.Labels, f.Label)
	}
	return c.specialized(natural.Derivation{Rule: natural.Axiom, Index: n}, names)
}

// specialized returns the derivation of a formula from that of the closed one.
func (c *carrier) specialized(d natural.Derivation, names []string) natural.Derivation {
	c.count(1)
	for _, name := range names {
		c.count(1)
		d = allOut(meaning.Parameter(name), d)
	}
	return d
}

// take notes the numbers that dummies cannot have.
func (c *carrier) take() {
	db := c.room.book.Database
	for _, s := range slices.Concat(db.Constants, db.Variables) {
		text, ok := strings.CutPrefix(s, dummy)
		if n, e := strconv.Atoi(text); ok && e == nil && n > 0 && strconv.Itoa(n) == text {
			c.taken = append(c.taken, n)
		}
	}
	slices.Sort(c.taken)
}

// name returns the name of the next dummy.
func (c *carrier) name() string {
	c.named++
	n := c.named
	for _, t := range c.taken {
		if t <= n {
			n++
		}
	}
	return dummy + strconv.Itoa(n)
}
