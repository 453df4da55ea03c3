package grammar

import (
	"maps"
	"slices"

	"apodixis/api"
)

// set is a set of sorts, or of symbols.
type set map[string]bool

// listed returns the sorts of a set in the order of the grammar.
func listed(g Grammar, s set) []string {
	var l []string
	for _, sort := range g.Sorts {
		if s[sort] {
			l = append(l, sort)
		}
	}
	return l
}

// every reports whether all parts of a rule are as they should be.
func every(r Rule, is func(Part) bool) bool {
	return !slices.ContainsFunc(r.Parts, func(p Part) bool { return !is(p) })
}

// grown returns the smallest set that has the sort of each rule all of whose parts are as they should be, given the set.
func grown(g Grammar, is func(p Part, s set) bool) set {
	s := set{}
growing:
	for {
		for r := range rules(g, func(r Rule) bool { return !s[r.Sort] }) {
			if every(r, func(p Part) bool { return is(p, s) }) {
				s[r.Sort] = true
				continue growing
			}
		}
		return s
	}
}

func nullable(g Grammar) set {
	return grown(g, func(p Part, s set) bool { return p.Sort != "" && s[p.Sort] })
}

func productive(g Grammar) set {
	return grown(g, func(p Part, s set) bool { return p.Sort == "" || s[p.Sort] })
}

// Nullable returns the sorts that have the empty expression.
func Nullable(g Grammar) ([]string, api.Errno) {
	if e := Check(g); e != api.OK {
		return nil, e
	}
	return listed(g, nullable(g)), api.OK
}

// Productive returns the sorts that have an expression.
func Productive(g Grammar) ([]string, api.Errno) {
	if e := Check(g); e != api.OK {
		return nil, e
	}
	return listed(g, productive(g)), api.OK
}

// check returns the error of a grammar and of one of its sorts.
func check(g Grammar, sort string) api.Errno {
	if e := Check(g); e != api.OK {
		return e
	}
	if !slices.Contains(g.Sorts, sort) {
		return api.ErrNone
	}
	return api.OK
}

// Reachable returns the sorts that expressions of a sort can contain.
func Reachable(g Grammar, sort string) ([]string, api.Errno) {
	if e := check(g, sort); e != api.OK {
		return nil, e
	}
	return listed(g, reachable(g, sort)), api.OK
}

func reachable(g Grammar, sort string) set {
	next := map[string]set{}
	for _, r := range g.Rules {
		for _, p := range r.Parts {
			if p.Sort != "" {
				link(next, r.Sort, p.Sort)
			}
		}
	}
	s := behind(next, sort)
	s[sort] = true
	return s
}

// link adds that a sort leads to another one.
func link(next map[string]set, from, to string) {
	if next[from] == nil {
		next[from] = set{}
	}
	next[from][to] = true
}

// behind returns the sorts to which a sort leads in one or more steps.
func behind(next map[string]set, sort string) set {
	s := maps.Clone(next[sort])
	if s == nil {
		s = set{}
	}
growing:
	for {
		for _, from := range slices.Sorted(maps.Keys(s)) {
			for to := range next[from] {
				if !s[to] {
					maps.Copy(s, next[from])
					continue growing
				}
			}
		}
		return s
	}
}

// Cyclic returns the sorts an expression of which can consist of nothing but an expression of the same sort.
func Cyclic(g Grammar) ([]string, api.Errno) {
	if e := Check(g); e != api.OK {
		return nil, e
	}
	empty, some := nullable(g), productive(g)
	next := map[string]set{}
	for r := range rules(g, func(r Rule) bool { return every(r, func(p Part) bool { return some[p.Sort] }) }) {
		isFull := func(p Part) bool { return !empty[p.Sort] }
		first := slices.IndexFunc(r.Parts, isFull)
		if first >= 0 {
			if !slices.ContainsFunc(r.Parts[first+1:], isFull) {
				link(next, r.Sort, r.Parts[first].Sort)
			}
			continue
		}
		for _, p := range r.Parts {
			link(next, r.Sort, p.Sort)
		}
	}
	cyclic := set{}
	for _, sort := range g.Sorts {
		cyclic[sort] = behind(next, sort)[sort]
	}
	return listed(g, cyclic), api.OK
}

// First returns the symbols with which expressions of a sort can begin.
func First(g Grammar, sort string) ([]string, api.Errno) {
	if e := check(g, sort); e != api.OK {
		return nil, e
	}
	return slices.Sorted(maps.Keys(firsts(g)[sort])), api.OK
}

// firsts returns the first symbols of all sorts.
func firsts(g Grammar) map[string]set {
	empty, some := nullable(g), productive(g)
	first := map[string]set{}
	for _, sort := range g.Sorts {
		first[sort] = set{}
	}
	isProductive := func(r Rule) bool {
		return every(r, func(p Part) bool { return p.Sort == "" || some[p.Sort] })
	}
growing:
	for {
		grows := false
		for r := range rules(g, isProductive) {
			count := len(first[r.Sort])
			begin(first[r.Sort], r, first, empty)
			grows = grows || len(first[r.Sort]) > count
		}
		if !grows {
			break growing
		}
	}
	return first
}

// begin adds the symbols with which a productive rule can begin.
func begin(s set, r Rule, first map[string]set, empty set) {
	for _, p := range r.Parts {
		if p.Sort == "" {
			s[p.Symbol] = true
			return
		}
		maps.Copy(s, first[p.Sort])
		if !empty[p.Sort] {
			return
		}
	}
}
