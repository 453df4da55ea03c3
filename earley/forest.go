package earley

import (
	"iter"
	"slices"

	"apodixis/api"
	"apodixis/grammar"
)

// maxWays is how many ways a forest may have.
const maxWays = 10 * api.MaxNodes

// place is a sort between two places of the text: what a node stands for.
type place struct {
	sort     string
	from, to int
}

// packer builds the forest of a text that was read.
type packer struct {
	chart   *chart
	numbers map[place]int
	places  []place
	nodes   []Node
	ways    int
}

// pack builds all nodes that are reached from the whole, unless the forest is too large.
func (p *packer) pack(whole place) bool {
	p.number(whole)
	for i := 0; i < len(p.places); i++ {
		x := p.places[i]
		n := Node{Sort: x.sort, From: x.from, To: x.to}
		for _, r := range p.chart.rules[x.sort] {
			ends, ok := p.ends(r, x.from, x.to)
			if !ok {
				return false
			}
			for _, l := range ends {
				n.Ways = append(n.Ways, Way{Rule: r, Kids: p.kids(r, x.from, l)})
			}
			if len(p.places) > api.MaxNodes {
				return false
			}
		}
		p.nodes = append(p.nodes, n)
	}
	return true
}

// number returns the number of a node, and adds one that is new.
func (p *packer) number(x place) int {
	n, ok := p.numbers[x]
	if !ok {
		n = len(p.places)
		p.numbers[x] = n
		p.places = append(p.places, x)
	}
	return n
}

// ends returns where the parts of a rule can end between two places, in order, unless these are too many ways.
func (p *packer) ends(rule, from, to int) ([][]int, bool) {
	var l [][]int
	for ends := range p.chart.splits(rule, from, to) {
		p.ways++
		if p.ways > maxWays {
			return nil, false
		}
		l = append(l, slices.Clone(ends))
	}
	slices.SortFunc(l, slices.Compare[[]int])
	return l, true
}

// kids returns the numbers of the nodes of a rule's arguments; they are numbered in the order of the arguments.
func (p *packer) kids(rule, from int, ends []int) []int {
	parts := p.chart.g.Rules[rule].Parts
	args := make([]place, countArgs(parts))
	for i, x := range parts {
		if x.Sort != "" {
			args[x.Arg] = place{x.Sort, from, ends[i]}
		}
		from = ends[i]
	}
	kids := make([]int, len(args))
	for i, x := range args {
		kids[i] = p.number(x)
	}
	return kids
}

// countArgs returns how many of the parts of a rule are its arguments.
func countArgs(parts []grammar.Part) int {
	count := 0
	for _, p := range parts {
		if p.Sort != "" {
			count++
		}
	}
	return count
}

// splits yields where the parts of a rule end between two places, for each way there is. It goes from the last part to the first one, as the chart tells what can stand ahead of a dot; the list is its own, and changes.
func (c *chart) splits(rule, from, to int) iter.Seq[[]int] {
	return func(yield func([]int) bool) {
		if !c.sets[to].known[item{rule, len(c.g.Rules[rule].Parts), from}] {
			return
		}
		ends := make([]int, len(c.g.Rules[rule].Parts))
		var walk func(dot, at int) bool
		walk = func(dot, at int) bool {
			if dot == 0 {
				return yield(ends)
			}
			ends[dot-1] = at
			p := c.g.Rules[rule].Parts[dot-1]
			if p.Sort == "" {
				return walk(dot-1, at-1)
			}
			for _, begin := range c.sets[at].begins[p.Sort] {
				if begin >= from && c.sets[begin].known[item{rule, dot - 1, from}] && !walk(dot-1, begin) {
					return false
				}
			}
			return true
		}
		walk(len(ends), to)
	}
}
