package certify

import (
	"iter"

	"apodixis/api"
	"apodixis/earley"
	"apodixis/grammar"
)

// maxNodes is how many nodes two trees may have together, of 40 bytes each: of a result with more than 2^31 - 1 bytes the document promises nothing. No other limit holds for trees that are in no certificate.
const maxNodes = (1<<31 - 1) / 40

// Shortest returns the first text, by length and then symbol by symbol, that has two trees.
func Shortest(g grammar.Grammar, sort string, most int) (text []string, a, b api.Tree, e api.Errno) {
	if e := grammar.Check(g); e != api.OK {
		return nil, api.Tree{}, api.Tree{}, e
	}
	if most < 0 || most > maxMost {
		return nil, api.Tree{}, api.Tree{}, api.ErrRange
	}
	text, p, e := shortest(g, sort, most)
	if e != api.OK {
		return nil, api.Tree{}, api.Tree{}, e
	}
	return text, built(g, p[0]), built(g, p[1]), api.OK
}

// shortest returns the first text that has two trees, and two of them, which are not built yet.
func shortest(g grammar.Grammar, sort string, most int) ([]string, [2]*plan, api.Errno) {
	texts, e := grammar.Sentences(g, sort, most)
	if e != api.OK {
		return nil, [2]*plan{}, e
	}
	for text, f := range ambiguous(g, sort, texts) {
		p := smallest(f)
		if len(p) < 2 || p[0].nodes+p[1].nodes > maxNodes {
			return nil, [2]*plan{}, api.ErrLarge
		}
		return text, [2]*plan{p[0], p[1]}, api.OK
	}
	return nil, [2]*plan{}, api.ErrNone
}

// ambiguous yields those of some texts that have two trees or more, with their forests.
func ambiguous(g grammar.Grammar, sort string, texts [][]string) iter.Seq2[[]string, earley.Forest] {
	return func(yield func([]string, earley.Forest) bool) {
		for _, text := range texts {
			f, e := earley.Parse(g, sort, text)
			if e != api.OK {
				continue
			}
			n, e := earley.Count(f)
			if (e != api.OK || n > 1) && !yield(text, f) {
				return
			}
		}
	}
}

// plan is a tree of a node of a forest, with its size.
type plan struct {
	nodes int
	rule  int
	kids  []*plan
}

// smallest returns two different trees of a forest, the smallest ones that are not too deep. Where there are no such two it goes deeper; it returns fewer, if all others are too large.
func smallest(f earley.Forest) []*plan {
	// The plans of the round n are the two smallest trees of each node of a depth of at most n.
	plans := make([][]*plan, len(f.Nodes))
growing:
	for depth := 1; ; depth++ {
		next := make([][]*plan, len(f.Nodes))
		changed := false
		for i, n := range f.Nodes {
			next[i] = best(n, plans)
			changed = changed || !sameSizes(next[i], plans[i])
		}
		plans = next
		if !changed || depth >= api.MaxDepth && len(plans[0]) == 2 {
			break growing
		}
	}
	return plans[0]
}

func sameSizes(a, b []*plan) bool {
	if len(a) != len(b) {
		return false
	}
	for i := range a {
		if a[i].nodes != b[i].nodes {
			return false
		}
	}
	return true
}

// best returns the two smallest trees of a node, or fewer, given those of its kids. Of a way these have the smallest kids, or all but one of them, and for this one the second.
func best(n earley.Node, plans [][]*plan) []*plan {
	var l []*plan
	for _, w := range n.Ways {
		p, ok := planned(w, plans)
		if !ok {
			continue
		}
		l = insert(l, p)
		for i, k := range w.Kids {
			if len(plans[k]) < 2 {
				continue
			}
			other := p.nodes - plans[k][0].nodes + plans[k][1].nodes
			if len(l) == 2 && other >= l[1].nodes {
				continue
			}
			kids := append(p.kids[:i:i], plans[k][1])
			l = insert(l, &plan{other, w.Rule, append(kids, p.kids[i+1:]...)})
		}
	}
	return l
}

// planned returns the smallest tree of a way, unless it is too large.
func planned(w earley.Way, plans [][]*plan) (*plan, bool) {
	p := &plan{nodes: 1, rule: w.Rule}
	for _, k := range w.Kids {
		if len(plans[k]) == 0 {
			return nil, false
		}
		p.nodes += plans[k][0].nodes
		p.kids = append(p.kids, plans[k][0])
	}
	return p, p.nodes <= maxNodes
}

// insert returns the two smallest of at most two trees in order and a further one.
func insert(l []*plan, p *plan) []*plan {
	if p.nodes > maxNodes {
		return l
	}
	at := 0
	for at < len(l) && l[at].nodes <= p.nodes {
		at++
	}
	longer := append(l[:at:at], p)
	longer = append(longer, l[at:]...)
	return longer[:min(len(longer), 2)]
}

// built returns the tree of a plan.
func built(g grammar.Grammar, p *plan) api.Tree {
	t := api.Tree{Label: g.Rules[p.rule].Label}
	if len(p.kids) > 0 {
		t.Kids = make([]api.Tree, 0, len(p.kids)) // not longer, as there may be many
	}
	for _, k := range p.kids {
		t.Kids = append(t.Kids, built(g, k))
	}
	return t
}
