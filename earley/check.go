package earley

import (
	"apodixis/api"
	"apodixis/grammar"
)

// Check returns the error of a forest.
func Check(g grammar.Grammar, text []string, f Forest) api.Errno {
	if e := grammar.Check(g); e != api.OK {
		return e
	}
	if len(f.Nodes) == 0 || len(f.Nodes) > api.MaxNodes {
		return api.ErrSize
	}
	known := map[place]bool{}
	for _, n := range f.Nodes {
		x := place{n.Sort, n.From, n.To}
		if known[x] || n.From < 0 || n.From > n.To || n.To > len(text) || len(n.Ways) == 0 {
			return api.ErrForm
		}
		known[x] = true
	}
	for _, n := range f.Nodes {
		for _, w := range n.Ways {
			if !isWay(g, text, f, n, w) {
				return api.ErrForm
			}
		}
	}
	return api.OK
}

// isWay reports whether the parts of a way's rule, one behind the other, are the symbols of its node.
func isWay(g grammar.Grammar, text []string, f Forest, n Node, w Way) bool {
	if w.Rule < 0 || w.Rule >= len(g.Rules) || g.Rules[w.Rule].Sort != n.Sort {
		return false
	}
	parts := g.Rules[w.Rule].Parts
	if len(w.Kids) != countArgs(parts) {
		return false
	}
	at := n.From
	for _, p := range parts {
		if p.Sort == "" {
			if at >= n.To || text[at] != p.Symbol {
				return false
			}
			at++
			continue
		}
		kid := w.Kids[p.Arg]
		if kid < 0 || kid >= len(f.Nodes) {
			return false
		}
		if k := f.Nodes[kid]; k.Sort != p.Sort || k.From != at {
			return false
		}
		at = f.Nodes[kid].To
	}
	return at == n.To
}
