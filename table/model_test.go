package table

import (
	"math/rand"
	"slices"
	"strconv"
	"strings"
	"testing"

	"apodixis/api"
	"apodixis/earley"
	"apodixis/grammar"
)

// grammarOf returns a grammar whose rules are written as their label, their sort and their parts; a part that is a sort is an argument, and the arguments have their order.
func grammarOf(sorts string, rules ...string) grammar.Grammar {
	g := grammar.Grammar{Sorts: strings.Fields(sorts)}
	for _, s := range rules {
		l := strings.Fields(s)
		r := grammar.Rule{Label: l[0], Sort: l[1]}
		args := 0
		for _, p := range l[2:] {
			if slices.Contains(g.Sorts, p) {
				r.Parts = append(r.Parts, grammar.Part{Sort: p, Arg: args})
				args++
			} else {
				r.Parts = append(r.Parts, grammar.Part{Symbol: p})
			}
		}
		g.Rules = append(g.Rules, r)
	}
	return g
}

// random returns a small grammar; many of them have tables. The sorts are not in the order of their names, and one is named as a symbol.
func random(r *rand.Rand) grammar.Grammar {
	g := grammar.Grammar{Sorts: []string{"u", "s", "a"}[:1+r.Intn(3)]}
	for i := range 1 + r.Intn(5) {
		x := grammar.Rule{Label: "r" + strconv.Itoa(i), Sort: g.Sorts[r.Intn(len(g.Sorts))]}
		var args []int
		for range r.Intn(5) {
			if r.Intn(5) > 1 {
				x.Parts = append(x.Parts, grammar.Part{Symbol: string(rune('a' + r.Intn(3)))})
				continue
			}
			args = append(args, len(x.Parts))
			x.Parts = append(x.Parts, grammar.Part{Sort: g.Sorts[r.Intn(len(g.Sorts))]})
		}
		for arg, i := range r.Perm(len(args)) {
			x.Parts[args[i]].Arg = arg
		}
		g.Rules = append(g.Rules, x)
	}
	return g
}

// texts yields all texts of three symbols up to a length.
func texts(most int) [][]string {
	l := [][]string{nil}
	for i := 0; i < len(l); i++ {
		if len(l[i]) < most {
			for _, s := range []string{"a", "b", "c"} {
				l = append(l, append(slices.Clone(l[i]), s))
			}
		}
	}
	return l
}

// next returns the part behind the dot of an item of a table of a sort, as a step; false, if there is none.
func next(g grammar.Grammar, sort string, x Item) (step, bool) {
	parts := []grammar.Part{{Sort: sort}}
	if x.Rule >= 0 {
		parts = g.Rules[x.Rule].Parts
	}
	if x.Dot == len(parts) {
		return step{}, false
	}
	p := parts[x.Dot]
	return step{p.Symbol + p.Sort, p.Sort != ""}, true
}

// closed returns the closure of items by the definition.
func closed(g grammar.Grammar, sort string, l []Item) []Item {
	nullable, _ := grammar.Nullable(g)
	l = slices.Clone(l)
	for i := 0; i < len(l); i++ {
		if slices.Contains(l[:i], l[i]) {
			l = slices.Delete(l, i, i+1)
			i--
			continue
		}
		s, ok := next(g, sort, l[i])
		if !ok || !s.isSort {
			continue
		}
		var nexts []string
		rest := l[i]
		for rest.Dot++; ; rest.Dot++ {
			behind, ok := next(g, sort, rest)
			if !ok {
				nexts = append(nexts, rest.Next)
				break
			}
			if !behind.isSort {
				nexts = append(nexts, behind.on)
				break
			}
			first, _ := grammar.First(g, behind.on)
			nexts = append(nexts, first...)
			if !slices.Contains(nullable, behind.on) {
				break
			}
		}
		for r, x := range g.Rules {
			for _, n := range nexts {
				if x.Sort == s.on {
					l = append(l, Item{r, 0, n})
				}
			}
		}
	}
	slices.SortFunc(l, func(a, b Item) int {
		if a.Rule != b.Rule {
			return a.Rule - b.Rule
		}
		if a.Dot != b.Dot {
			return a.Dot - b.Dot
		}
		return strings.Compare(a.Next, b.Next)
	})
	return l
}

// moved returns the closure behind a step; nothing, if no item has it.
func moved(g grammar.Grammar, sort string, state []Item, s step) []Item {
	var l []Item
	for _, x := range state {
		if behind, ok := next(g, sort, x); ok && behind == s {
			l = append(l, Item{x.Rule, x.Dot + 1, x.Next})
		}
	}
	return closed(g, sort, l)
}

// steps returns all steps in the order in which a state's edges are met.
func steps(g grammar.Grammar) []step {
	l := []step{{"a", false}, {"b", false}, {"c", false}}
	for _, s := range g.Sorts {
		l = append(l, step{s, true})
	}
	return l
}

// modelled returns the table of a sort by the definition, also with conflicts, and the way to each state.
func modelled(g grammar.Grammar, sort string) (Table, [][]string) {
	t := Table{Sort: sort, States: [][]Item{closed(g, sort, []Item{{whole, 0, ""}})}}
	ways := [][]string{nil}
	for i := 0; i < len(t.States); i++ {
		for _, s := range steps(g) {
			to := moved(g, sort, t.States[i], s)
			if len(to) == 0 {
				continue
			}
			n := slices.IndexFunc(t.States, func(l []Item) bool { return slices.Equal(l, to) })
			if n < 0 {
				n = len(t.States)
				t.States = append(t.States, to)
				ways = append(ways, append(slices.Clone(ways[i]), s.on))
			}
			t.Edges = append(t.Edges, Edge{i, s.on, s.isSort, n})
		}
	}
	return t, ways
}

// conflicting returns the first conflict of a state by the definition.
func conflicting(g grammar.Grammar, sort string, state []Item) (Conflict, bool) {
	for _, symbol := range []string{"", "a", "b", "c"} {
		for i, x := range state {
			for _, y := range state[i+1:] {
				p, more := next(g, sort, x)
				q, also := next(g, sort, y)
				isAt := func(x Item, s step, more bool) bool {
					return !more && x.Next == symbol || more && s == step{symbol, false}
				}
				if isAt(x, p, more) && isAt(y, q, also) && !(more && also) {
					return Conflict{Next: symbol, A: x, B: y}, true
				}
			}
		}
	}
	return Conflict{}, false
}

func sameTable(t, u Table) bool {
	return t.Sort == u.Sort && slices.EqualFunc(t.States, u.States, slices.Equal[[]Item]) && slices.Equal(t.Edges, u.Edges)
}

func sameConflict(a, b Conflict) bool {
	return slices.Equal(a.Text, b.Text) && a.Next == b.Next && a.A == b.A && a.B == b.B
}

func sameTree(a, b api.Tree) bool {
	return a.Label == b.Label && slices.EqualFunc(a.Kids, b.Kids, sameTree)
}

// P15.1, P15.2 and P15.4: tables and conflicts by the definitions.
func TestBuildOfRandomGrammars(t *testing.T) {
	r := rand.New(rand.NewSource(15))
	tables, conflicts := 0, 0
	for range 1500 {
		g := random(r)
		sort := g.Sorts[r.Intn(len(g.Sorts))]
		want, ways := modelled(g, sort)
		var conflict Conflict
		hasConflict := false
		for i, state := range want.States {
			if conflict, hasConflict = conflicting(g, sort, state); hasConflict {
				conflict.Text = ways[i]
				break
			}
		}
		got, c, e := Build(g, sort)
		if hasConflict {
			conflicts++
			if e != ErrConflict || !sameConflict(c, conflict) || !sameTable(got, Table{}) {
				t.Fatalf("%v: %v, %v, %d, want %v", g, got, c, e, conflict)
			}
			if e := Check(g, want); e != ErrConflict {
				t.Fatalf("%v: Check with %v: %d", g, conflict, e)
			}
			continue
		}
		tables++
		if e != api.OK || !sameTable(got, want) || !sameConflict(c, Conflict{}) {
			t.Fatalf("%v: %v, %v, %d, want %v", g, got, c, e, want)
		}
		if e := Check(g, got); e != api.OK {
			t.Fatalf("%v: Check of its table: %d", g, e)
		}
	}
	if tables < 300 || conflicts < 300 {
		t.Errorf("only %d tables, and %d conflicts", tables, conflicts)
	}
}

// P15.3 and P15.4, and P5 of DOC.md: parsing by a table is parsing, and a text with two trees makes a conflict.
func TestParseOfRandomGrammars(t *testing.T) {
	r := rand.New(rand.NewSource(153))
	all := texts(5)
	right, wrong, ambiguous := 0, 0, 0
	for range 300 {
		g := random(r)
		sort := g.Sorts[0]
		x, _, e := Build(g, sort)
		productive, _ := grammar.Productive(g)
		isProductive := len(productive) == len(g.Sorts)
		sentences, _ := grammar.Sentences(g, sort, 7)
		for range 40 {
			text := all[r.Intn(len(all))]
			if len(sentences) > 0 && r.Intn(2) == 0 {
				text = sentences[r.Intn(len(sentences))]
			}
			f, parsed := earley.Parse(g, sort, text)
			if e != api.OK {
				n, many := earley.Count(f)
				if parsed == api.OK && (n > 1 || many != api.OK) {
					ambiguous++
				}
				continue
			}
			got, at, wrongAt := Parse(g, x, text)
			if parsed == api.OK {
				right++
				trees, counted := earley.Trees(g, f, 2)
				if counted != api.OK || len(trees) != 1 || wrongAt != api.OK || at != 0 || !sameTree(got, trees[0]) {
					t.Fatalf("%v of %q: %v, %d, %d, want %v, %d", g, text, got, at, wrongAt, trees, counted)
				}
				continue
			}
			wrong++
			viable, next, _ := earley.Viable(g, sort, text)
			if wrongAt != ErrParse || !sameTree(got, api.Tree{}) || isProductive && at != viable {
				t.Fatalf("%v of %q: %v, %d, %d, want ErrParse, %d", g, text, got, at, wrongAt, viable)
			}
			l, expected := Expected(g, x, text[:at])
			if expected != api.OK || isProductive && slices.ContainsFunc(next, func(s string) bool { return !slices.Contains(l, s) }) {
				t.Fatalf("%v of %q: expected behind %q are %q, %d, want %q", g, text, text[:at], l, expected, next)
			}
		}
	}
	if right < 300 || wrong < 300 || ambiguous < 50 {
		t.Errorf("only %d right texts, %d wrong ones, %d with several trees", right, wrong, ambiguous)
	}
}

// P15.4: a grammar with a text that has two trees has no table.
func TestAmbiguousGrammars(t *testing.T) {
	r := rand.New(rand.NewSource(154))
	ambiguous := 0
	for range 400 {
		g := random(r)
		sort := g.Sorts[0]
		l, _ := grammar.Sentences(g, sort, 5)
		for _, text := range l {
			f, _ := earley.Parse(g, sort, text)
			if n, e := earley.Count(f); n > 1 || e != api.OK {
				ambiguous++
				if _, c, e := Build(g, sort); e != ErrConflict || c.A == c.B || compare(c.A, c.B) >= 0 {
					t.Fatalf("%v: %q has two trees, but Build is %v, %d", g, text, c, e)
				}
				break
			}
		}
	}
	if ambiguous < 50 {
		t.Errorf("only %d ambiguous grammars", ambiguous)
	}
}

// P15.1 and P15.2: closures by the definition; a closure of a closure is itself.
func TestClosureOfRandomGrammars(t *testing.T) {
	r := rand.New(rand.NewSource(152))
	for range 2000 {
		g := random(r)
		var l []Item
		for range r.Intn(4) {
			rule := r.Intn(len(g.Rules))
			l = append(l, Item{rule, r.Intn(len(g.Rules[rule].Parts) + 1), []string{"", "a", "x"}[r.Intn(3)]})
		}
		before := slices.Clone(l)
		got, e := Closure(g, l)
		if want := closed(g, "", l); e != api.OK || !slices.Equal(got, want) || !slices.Equal(l, before) {
			t.Fatalf("%v of %v: %v, %d, want %v", g, l, got, e, want)
		}
		if again, e := Closure(g, got); e != api.OK || !slices.Equal(again, got) {
			t.Fatalf("%v of %v: %v, %d", g, got, again, e)
		}
	}
}

// isRight reports whether a small table is right, by the definition.
func isRight(g grammar.Grammar, t Table) bool {
	if !slices.Contains(g.Sorts, t.Sort) || len(t.States) == 0 {
		return false
	}
	needed := 0
	for i, state := range t.States {
		for _, x := range state {
			if x.Rule < -1 || x.Rule >= len(g.Rules) || x.Dot < 0 || x.Rule == -1 && x.Dot > 1 || x.Rule >= 0 && x.Dot > len(g.Rules[x.Rule].Parts) || len(x.Next) > api.MaxLabel {
				return false
			}
		}
		if len(state) == 0 || !slices.Equal(closed(g, t.Sort, state), state) {
			return false
		}
		for _, s := range steps(g) {
			to := moved(g, t.Sort, state, s)
			if len(to) == 0 {
				continue
			}
			needed++
			count := 0
			for _, e := range t.Edges {
				if e.From == i && e.On == s.on && e.Sort == s.isSort {
					count++
					if e.To < 0 || e.To >= len(t.States) || !slices.Equal(t.States[e.To], to) {
						return false
					}
				}
			}
			if count != 1 {
				return false
			}
		}
	}
	return needed == len(t.Edges) && slices.Equal(t.States[0], closed(g, t.Sort, []Item{{whole, 0, ""}}))
}

// copied returns a copy of a table.
func copied(t Table) Table {
	u := Table{Sort: t.Sort, Edges: slices.Clone(t.Edges)}
	for _, state := range t.States {
		u.States = append(u.States, slices.Clone(state))
	}
	return u
}

// changed returns a table with one thing changed.
func changed(r *rand.Rand, g grammar.Grammar, t Table) Table {
	t = copied(t)
	n := r.Intn(len(t.States))
	state := t.States[n]
	x := &state[r.Intn(len(state))]
	switch r.Intn(14) {
	case 0:
		t.Sort = append(g.Sorts, "", "x")[r.Intn(len(g.Sorts)+2)]
	case 1:
		x.Rule += r.Intn(3) - 1
	case 2:
		x.Dot += r.Intn(3) - 1
	case 3:
		x.Next = []string{"", "a", "b", "x"}[r.Intn(4)]
	case 4:
		t.States[n] = append(state, state[0])
	case 5:
		t.States[n] = state[1:]
	case 6:
		slices.Reverse(state)
	case 7:
		t.States = append(t.States, state) // its edges are missing
	case 8: // a state that is not reached
		for _, e := range t.Edges {
			if e.From == n {
				e.From = len(t.States)
				t.Edges = append(t.Edges, e)
			}
		}
		t.States = append(t.States, state)
	case 9:
		t.States[0], t.States[n] = t.States[n], t.States[0]
	}
	if len(t.Edges) == 0 {
		return t
	}
	e := &t.Edges[r.Intn(len(t.Edges))]
	switch r.Intn(14) {
	case 0:
		e.From += r.Intn(3) - 1
	case 1:
		e.On = []string{"a", "b", "s", ""}[r.Intn(4)]
	case 2:
		e.Sort = !e.Sort
	case 3:
		e.To += r.Intn(3) - 1
	case 4:
		t.Edges = append(t.Edges, *e)
	case 5:
		t.Edges = t.Edges[1:]
	case 6:
		slices.Reverse(t.Edges)
	}
	return t
}

// P15.1: Check takes just the tables that are right.
func TestCheckOfChangedTables(t *testing.T) {
	r := rand.New(rand.NewSource(155))
	right, wrong := 0, 0
	for range 4000 {
		g := random(r)
		sort := g.Sorts[r.Intn(len(g.Sorts))]
		x, _ := modelled(g, sort)
		x = changed(r, g, x)
		want := ErrTable
		if isRight(g, x) {
			want = api.OK
			for _, state := range x.States {
				if _, ok := conflicting(g, x.Sort, state); ok {
					want = ErrConflict
				}
			}
			right++
		} else {
			wrong++
		}
		if e := Check(g, x); e != want {
			t.Fatalf("%v: Check of %v: %d, want %d", g, x, e, want)
		}
		if want != api.OK {
			if tree, at, e := Parse(g, x, make([]string, 300)); e != want || at != 0 || !sameTree(tree, api.Tree{}) {
				t.Fatalf("%v: Parse with %v: %v, %d, %d, want %d", g, x, tree, at, e, want)
			}
			if l, e := Expected(g, x, make([]string, 300)); e != want || l != nil {
				t.Fatalf("%v: Expected with %v: %q, %d, want %d", g, x, l, e, want)
			}
		}
	}
	if right < 500 || wrong < 1000 {
		t.Errorf("only %d right tables, and %d wrong ones", right, wrong)
	}
}
