package earley

import (
	"slices"

	"apodixis/grammar"
)

// item is a rule, a dot in its parts, and the place of the text where it begins: what stands ahead of the dot was read from there on.
type item = [3]int

// span is an expression of a sort that begins at a place.
type span struct {
	sort string
	from int
}

// set has the items at a place of the text.
type set struct {
	items   []item
	known   map[item]bool
	waiting map[string][]item // those with a sort behind the dot
	ended   map[span]bool     // the expressions that end here
	begins  map[string][]int  // where they begin
}

func newSet() *set {
	return &set{known: map[item]bool{}, waiting: map[string][]item{}, ended: map[span]bool{}, begins: map[string][]int{}}
}

// chart has a set for each place of the text that the rules reach.
type chart struct {
	g        grammar.Grammar
	text     []string
	isAll    bool             // whether also rules are begun that the next symbol refuses
	rules    map[string][]int // of each sort, those all of whose parts have expressions
	nullable map[string]bool
	sets     []*set
}

func newChart(g grammar.Grammar, text []string, isAll bool) *chart {
	c := &chart{g: g, text: text, isAll: isAll, rules: map[string][]int{}, nullable: map[string]bool{}}
	nullable, _ := grammar.Nullable(g)
	for _, s := range nullable {
		c.nullable[s] = true
	}
	productive, _ := grammar.Productive(g)
	isEmpty := func(p grammar.Part) bool { return p.Sort != "" && !slices.Contains(productive, p.Sort) }
	for i, r := range g.Rules {
		if !slices.ContainsFunc(r.Parts, isEmpty) {
			c.rules[r.Sort] = append(c.rules[r.Sort], i)
		}
	}
	return c
}

// behind returns the part behind the dot of an item.
func (c *chart) behind(x item) (grammar.Part, bool) {
	parts := c.g.Rules[x[0]].Parts
	if x[1] == len(parts) {
		return grammar.Part{}, false
	}
	return parts[x[1]], true
}

// read builds the sets of a text as an expression of a sort, as far as there are items.
func (c *chart) read(sort string) {
	c.sets = []*set{newSet()}
	c.predict(sort, 0)
	for at := 0; at < len(c.sets); at++ {
		next := c.scan(at)
		if len(next.items) > 0 {
			c.sets = append(c.sets, next)
		}
	}
}

// scan completes the set at a place, and returns the items that the symbol there leads to.
func (c *chart) scan(at int) *set {
	here, next := c.sets[at], newSet()
scanning:
	for i := 0; i < len(here.items); i++ {
		x := here.items[i]
		p, ok := c.behind(x)
		if !ok {
			c.complete(c.g.Rules[x[0]].Sort, x[2], at)
			continue scanning
		}
		moved := item{x[0], x[1] + 1, x[2]}
		if p.Sort == "" {
			if at < len(c.text) && c.text[at] == p.Symbol {
				next.add(moved)
			}
			continue scanning
		}
		if here.waiting[p.Sort] == nil {
			c.predict(p.Sort, at)
		}
		here.waiting[p.Sort] = append(here.waiting[p.Sort], x)
		if c.nullable[p.Sort] {
			here.add(moved)
		}
	}
	return next
}

// add adds an item that is new.
func (s *set) add(x item) {
	if !s.known[x] {
		s.known[x] = true
		s.items = append(s.items, x)
	}
}

// predict adds the beginnings of all rules of a sort at a place.
func (c *chart) predict(sort string, at int) {
	for _, r := range c.rules[sort] {
		x := item{r, 0, at}
		p, ok := c.behind(x)
		isRefused := ok && p.Sort == "" && (at == len(c.text) || c.text[at] != p.Symbol)
		if c.isAll || !isRefused {
			c.sets[at].add(x)
		}
	}
}

// complete moves the items that wait for an expression. An empty one moves them as soon as they wait, as there may be further ones later.
func (c *chart) complete(sort string, from, at int) {
	here := c.sets[at]
	if here.ended[span{sort, from}] {
		return
	}
	here.ended[span{sort, from}] = true
	here.begins[sort] = append(here.begins[sort], from)
	if from == at {
		return
	}
	for _, x := range c.sets[from].waiting[sort] {
		here.add(item{x[0], x[1] + 1, x[2]})
	}
}
