package table

import (
	"cmp"
	"iter"
	"maps"
	"slices"
	"strings"

	"apodixis/api"
	"apodixis/grammar"
)

// rules knows of a grammar what closures need.
type rules struct {
	g        grammar.Grammar
	sort     string           // that of the whole
	of       map[string][]int // the rules of each sort
	first    map[string][]string
	nullable map[string]bool
	rests    map[[2]int]rest // by rule and dot
}

// rest says with which symbols the parts behind a place of a rule can begin, and whether they can be empty.
type rest struct {
	first   []string
	isEmpty bool
}

func newRules(g grammar.Grammar, sort string) *rules {
	r := &rules{g: g, sort: sort, of: map[string][]int{}, first: map[string][]string{}, nullable: map[string]bool{}, rests: map[[2]int]rest{}}
	for i, x := range g.Rules {
		r.of[x.Sort] = append(r.of[x.Sort], i)
	}
	for _, s := range g.Sorts {
		r.first[s], _ = grammar.First(g, s)
	}
	nullable, _ := grammar.Nullable(g)
	for _, s := range nullable {
		r.nullable[s] = true
	}
	return r
}

// parts returns the parts of a rule, or of the whole.
func (r *rules) parts(rule int) []grammar.Part {
	if rule == whole {
		return []grammar.Part{{Sort: r.sort}}
	}
	return r.g.Rules[rule].Parts
}

// isItem reports whether an item is right.
func (r *rules) isItem(x Item) bool {
	return x.Rule >= whole && x.Rule < len(r.g.Rules) && x.Dot >= 0 && x.Dot <= len(r.parts(x.Rule)) && len(x.Next) <= api.MaxLabel
}

// behind returns the part behind the dot of an item.
func (r *rules) behind(x Item) (grammar.Part, bool) {
	parts := r.parts(x.Rule)
	if x.Dot == len(parts) {
		return grammar.Part{}, false
	}
	return parts[x.Dot], true
}

// rest returns what is known of the parts of a rule from a place on.
func (r *rules) rest(rule, dot int) rest {
	at := [2]int{rule, dot}
	known, ok := r.rests[at]
	if ok {
		return known
	}
	found := map[string]bool{}
	isEmpty := true
	for _, p := range r.parts(rule)[dot:] {
		if p.Sort == "" {
			found[p.Symbol] = true
		}
		for _, s := range r.first[p.Sort] {
			found[s] = true
		}
		if !r.nullable[p.Sort] {
			isEmpty = false
			break
		}
	}
	known = rest{slices.Sorted(maps.Keys(found)), isEmpty}
	r.rests[at] = known
	return known
}

// nexts yields what can follow the part behind the dot of an item.
func (r *rules) nexts(x Item) iter.Seq[string] {
	return func(yield func(string) bool) {
		l := r.rest(x.Rule, x.Dot+1)
		for _, s := range l.first {
			if !yield(s) {
				return
			}
		}
		if l.isEmpty {
			yield(x.Next)
		}
	}
}

// closure returns right items with all that follow from them, in order, unless they are too many.
func (r *rules) closure(l []Item) ([]Item, bool) {
	known := map[Item]bool{}
	var state []Item
	add := func(x Item) bool {
		if !known[x] {
			known[x] = true
			state = append(state, x)
		}
		return len(state) <= maxItems
	}
	for _, x := range l {
		if !add(x) {
			return nil, false
		}
	}
	type wanted struct{ sort, next string }
	begun := map[wanted]bool{}
	for i := 0; i < len(state); i++ {
		p, ok := r.behind(state[i])
		if !ok || p.Sort == "" {
			continue
		}
		for next := range r.nexts(state[i]) {
			w := wanted{p.Sort, next}
			if begun[w] {
				continue
			}
			begun[w] = true
			for _, rule := range r.of[p.Sort] {
				if !add(Item{rule, 0, next}) {
					return nil, false
				}
			}
		}
	}
	slices.SortFunc(state, compare)
	return state, true
}

// compare tells the order of items.
func compare(a, b Item) int {
	return cmp.Or(cmp.Compare(a.Rule, b.Rule), cmp.Compare(a.Dot, b.Dot), strings.Compare(a.Next, b.Next))
}

// conflict returns the first conflict of a state, without the way to it.
func (r *rules) conflict(state []Item) (Conflict, bool) {
	concerned := map[string][]Item{}
	complete := map[Item]bool{}
	for _, x := range state {
		p, ok := r.behind(x)
		switch {
		case !ok:
			complete[x] = true
			concerned[x.Next] = append(concerned[x.Next], x)
		case p.Sort == "":
			concerned[p.Symbol] = append(concerned[p.Symbol], x)
		}
	}
	for _, next := range slices.Sorted(maps.Keys(concerned)) {
		l := concerned[next]
		isOther := func(x Item) bool { return complete[l[0]] || complete[x] }
		if i := slices.IndexFunc(l[1:], isOther); i >= 0 {
			return Conflict{Next: next, A: l[0], B: l[1+i]}, true
		}
	}
	return Conflict{}, false
}
