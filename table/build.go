package table

import (
	"iter"
	"maps"
	"slices"
	"strconv"
	"strings"
)

// step is a symbol or a sort by which an edge leads.
type step struct {
	on     string
	isSort bool
}

// builder walks from state to state.
type builder struct {
	rules   *rules
	table   Table
	numbers map[string]int // of states, by the texts of the items whose closures they are
	from    []Edge         // the edge by which each state was met
}

func newBuilder(r *rules) *builder {
	return &builder{rules: r, table: Table{Sort: r.sort}, numbers: map[string]int{}}
}

// build walks all states, unless the table is too large.
func (b *builder) build() bool {
	if _, ok := b.meet([]Item{{whole, 0, ""}}, Edge{}); !ok {
		return false
	}
building:
	for at := 0; ; at++ {
		if at == len(b.table.States) {
			break building
		}
		for s, kernel := range b.rules.moves(b.table.States[at]) {
			e := Edge{From: at, On: s.on, Sort: s.isSort}
			to, ok := b.meet(kernel, e)
			// A table with too many edges is not right, so that Check would not take it.
			if !ok || len(b.table.Edges) == maxEdges {
				return false
			}
			e.To = to
			b.table.Edges = append(b.table.Edges, e)
		}
	}
	return true
}

// meet returns the number of the state that is the closure of some items, and adds one that is new. The items of an edge are those of the state whose dot is not at the beginning, so that they tell the state.
func (b *builder) meet(kernel []Item, by Edge) (int, bool) {
	text := written(kernel)
	n, known := b.numbers[text]
	if known {
		return n, true
	}
	n = len(b.table.States)
	state, ok := b.rules.closure(kernel)
	if !ok || n == maxBuilt {
		return 0, false
	}
	b.numbers[text] = n
	b.table.States = append(b.table.States, state)
	b.from = append(b.from, by)
	return n, true
}

// written returns a text of items, another one for other items.
func written(l []Item) string {
	var s strings.Builder
	for _, x := range l {
		s.WriteString(strconv.Itoa(x.Rule) + " " + strconv.Itoa(x.Dot) + " " + strconv.Quote(x.Next) + "\n")
	}
	return s.String()
}

// moves yields the steps from a state, symbols ahead of sorts, each with the items that it moves.
func (r *rules) moves(state []Item) iter.Seq2[step, []Item] {
	return func(yield func(step, []Item) bool) {
		kernels := map[step][]Item{}
		for _, x := range state {
			if p, ok := r.behind(x); ok {
				s := step{p.Symbol, false}
				if p.Sort != "" {
					s = step{p.Sort, true}
				}
				kernels[s] = append(kernels[s], Item{x.Rule, x.Dot + 1, x.Next})
			}
		}
		order := func(a, b step) int {
			switch {
			case a.isSort && b.isSort:
				return slices.Index(r.g.Sorts, a.on) - slices.Index(r.g.Sorts, b.on)
			case !a.isSort && !b.isSort:
				return strings.Compare(a.on, b.on)
			case a.isSort:
				return 1
			}
			return -1
		}
		for _, s := range slices.SortedFunc(maps.Keys(kernels), order) {
			if !yield(s, kernels[s]) {
				return
			}
		}
	}
}

// way returns the symbols and sorts by which a state was met.
func (b *builder) way(state int) []string {
	var l []string
	for state > 0 {
		l = append(l, b.from[state].On)
		state = b.from[state].From
	}
	slices.Reverse(l)
	return l
}
