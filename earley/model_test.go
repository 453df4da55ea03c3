package earley

import (
	"math/rand"
	"slices"
	"strconv"
	"strings"
	"testing"

	"apodixis/api"
	"apodixis/grammar"
)

// grammarOf returns a grammar whose rules are written as their label, their sort and their parts; a part that is a sort is an argument, and the arguments have their order.
func grammarOf(sorts string, rules ...string) grammar.Grammar {
	g := grammar.Grammar{Sorts: strings.Fields(sorts)}
	for _, s := range rules {
		l := strings.Fields(s)
		r := grammar.Rule{Label: l[0], Sort: l[1]}
		args := 0
		for _, p := range l[2:] {
			if slices.Contains(g.Sorts, p) {
				r.Parts = append(r.Parts, grammar.Part{Sort: p, Arg: args})
				args++
			} else {
				r.Parts = append(r.Parts, grammar.Part{Symbol: p})
			}
		}
		g.Rules = append(g.Rules, r)
	}
	return g
}

// random returns a small grammar, often with rules for nothing, with circles and with sorts without expressions.
func random(r *rand.Rand) grammar.Grammar {
	g := grammar.Grammar{Sorts: []string{"u", "s", "t"}[:1+r.Intn(3)]}
	for i := range 2 + r.Intn(6) {
		x := grammar.Rule{Label: "r" + strconv.Itoa(i), Sort: g.Sorts[r.Intn(len(g.Sorts))]}
		var args []int
		for range r.Intn(4) {
			if r.Intn(2) == 0 {
				x.Parts = append(x.Parts, grammar.Part{Symbol: string(rune('a' + r.Intn(2)))})
				continue
			}
			args = append(args, len(x.Parts))
			x.Parts = append(x.Parts, grammar.Part{Sort: g.Sorts[r.Intn(len(g.Sorts))]})
		}
		for arg, i := range r.Perm(len(args)) {
			x.Parts[args[i]].Arg = arg
		}
		g.Rules = append(g.Rules, x)
	}
	return g
}

func randomText(r *rand.Rand, most int) []string {
	var l []string
	for range r.Intn(most + 1) {
		l = append(l, string(rune('a'+r.Intn(2))))
	}
	return l
}

// derived returns the places of a text that are expressions, as the document tells it.
func derived(g grammar.Grammar, text []string) map[place]bool {
	found := map[place]bool{}
	for grows := true; grows; {
		grows = false
		for from := range len(text) + 1 {
			for to := from; to <= len(text); to++ {
				for _, r := range g.Rules {
					x := place{r.Sort, from, to}
					if !found[x] && len(divided(r.Parts, text, found, from, to)) > 0 {
						found[x], grows = true, true
					}
				}
			}
		}
	}
	return found
}

// divided returns all lists of places at which parts can end, in order.
func divided(parts []grammar.Part, text []string, found map[place]bool, from, to int) [][]int {
	if len(parts) == 0 {
		if from == to {
			return [][]int{nil}
		}
		return nil
	}
	var l [][]int
	for end := from; end <= to; end++ {
		p := parts[0]
		if p.Sort == "" && (end != from+1 || text[from] != p.Symbol) || p.Sort != "" && !found[place{p.Sort, from, end}] {
			continue
		}
		for _, ends := range divided(parts[1:], text, found, end, to) {
			l = append(l, append([]int{end}, ends...))
		}
	}
	return l
}

// modelled returns the forest of a text by its definition.
func modelled(g grammar.Grammar, sort string, text []string) Forest {
	found := derived(g, text)
	if !found[place{sort, 0, len(text)}] {
		return Forest{}
	}
	nodes := []place{{sort, 0, len(text)}}
	var f Forest
	for n := 0; n < len(nodes); n++ {
		x := nodes[n]
		node := Node{Sort: x.sort, From: x.from, To: x.to}
		for i, r := range g.Rules {
			if r.Sort != x.sort {
				continue
			}
			for _, ends := range divided(r.Parts, text, found, x.from, x.to) {
				kids := map[int]place{}
				at := x.from
				for j, p := range r.Parts {
					if p.Sort != "" {
						kids[p.Arg] = place{p.Sort, at, ends[j]}
					}
					at = ends[j]
				}
				w := Way{Rule: i}
				for arg := range len(kids) {
					k := slices.Index(nodes, kids[arg])
					if k < 0 {
						k = len(nodes)
						nodes = append(nodes, kids[arg])
					}
					w.Kids = append(w.Kids, k)
				}
				node.Ways = append(node.Ways, w)
			}
		}
		f.Nodes = append(f.Nodes, node)
	}
	return f
}

func sameForest(f, h Forest) bool {
	sameWay := func(a, b Way) bool { return a.Rule == b.Rule && slices.Equal(a.Kids, b.Kids) }
	return slices.EqualFunc(f.Nodes, h.Nodes, func(a, b Node) bool {
		return a.Sort == b.Sort && a.From == b.From && a.To == b.To && slices.EqualFunc(a.Ways, b.Ways, sameWay)
	})
}

// isCyclic reports whether a node that is reached is reached from itself.
func isCyclic(f Forest) bool {
	var meets func(n int, path []int) bool
	meets = func(n int, path []int) bool {
		if slices.Contains(path, n) {
			return true
		}
		for _, w := range f.Nodes[n].Ways {
			for _, k := range w.Kids {
				if meets(k, append(slices.Clone(path), n)) {
					return true
				}
			}
		}
		return false
	}
	return meets(0, nil)
}

// listed returns the trees of a node of a forest without circles, in order.
func listed(g grammar.Grammar, f Forest, n int) []api.Tree {
	var l []api.Tree
	for _, w := range f.Nodes[n].Ways {
		rows := [][]api.Tree{nil}
		for _, k := range w.Kids {
			var longer [][]api.Tree
			for _, row := range rows {
				for _, t := range listed(g, f, k) {
					longer = append(longer, append(slices.Clone(row), t))
				}
			}
			rows = longer
		}
		for _, row := range rows {
			l = append(l, api.Tree{Label: g.Rules[w.Rule].Label, Kids: row})
		}
	}
	return l
}

func sameTree(a, b api.Tree) bool {
	return a.Label == b.Label && slices.EqualFunc(a.Kids, b.Kids, sameTree)
}

// P14.1 to P14.3 and P14.5: forests, their numbers of trees and their trees, by the definitions.
func TestForestsOfRandomGrammars(t *testing.T) {
	r := rand.New(rand.NewSource(14))
	circles, several := 0, 0
	for range 4000 {
		g, text := random(r), randomText(r, 5)
		sort := g.Sorts[0]
		want := modelled(g, sort, text)
		f, e := Parse(g, sort, text)
		if len(want.Nodes) == 0 {
			if e != ErrParse || f.Nodes != nil {
				t.Fatalf("%v of %q: %v, %d, want ErrParse", g, text, f, e)
			}
			continue
		}
		if e != api.OK || !sameForest(f, want) {
			t.Fatalf("%v of %q: %v, %d, want %v", g, text, f, e, want)
		}
		if e := Check(g, text, f); e != api.OK {
			t.Fatalf("%v of %q: %v is not sound: %d", g, text, f, e)
		}
		n, e := Count(f)
		l, trees := Trees(g, f, 200)
		if isCyclic(want) {
			circles++
			if n != 0 || e != ErrInfinite || l != nil || trees != ErrInfinite {
				t.Fatalf("%v of %q: %d, %d and %v, %d, but it is cyclic", g, text, n, e, l, trees)
			}
			continue
		}
		all := listed(g, f, 0)
		if n != len(all) || e != api.OK {
			t.Fatalf("%v of %q: %d, %d, want %d", g, text, n, e, len(all))
		}
		if len(all) > 1 {
			several++
		}
		checkTrees(t, g, f, text, sort, all)
	}
	if circles < 100 || several < 100 {
		t.Errorf("only %d circles, and %d texts with several trees", circles, several)
	}
}

// checkTrees checks the first trees of a forest, and that each has the text and the sort.
func checkTrees(t *testing.T, g grammar.Grammar, f Forest, text []string, sort string, all []api.Tree) {
	t.Helper()
	for _, most := range []int{0, 1, 2, 7, 200} {
		l, e := Trees(g, f, most)
		if e != api.OK || !slices.EqualFunc(l, all[:min(most, len(all))], sameTree) {
			t.Fatalf("%v of %q: the first %d: %v, %d, want some of %v", g, text, most, l, e, all)
		}
	}
	for i, x := range all[:min(200, len(all))] {
		got, e := Text(g, x)
		s, f := Sort(g, x)
		if e != api.OK || f != api.OK || !slices.Equal(got, text) || s != sort {
			t.Fatalf("%v: %v has the text %q and the sort %q, %d, %d", g, x, got, s, e, f)
		}
		if slices.ContainsFunc(all[:i], func(y api.Tree) bool { return sameTree(x, y) }) {
			t.Fatalf("%v of %q: %v twice", g, text, x)
		}
	}
}

// P14.3: the sentences have forests, and no other texts do.
func TestSentences(t *testing.T) {
	r := rand.New(rand.NewSource(143))
	for range 500 {
		g := random(r)
		for _, s := range g.Sorts {
			l, _ := grammar.Sentences(g, s, 4)
			known := map[string]bool{}
			for _, text := range l {
				known[strings.Join(text, " ")] = true
			}
			for n := range 5 {
				for i := range 1 << n {
					text := make([]string, n)
					for j := range text {
						text[j] = string(rune('a' + i>>j&1))
					}
					if _, e := Parse(g, s, text); (e == api.OK) != known[strings.Join(text, " ")] {
						t.Fatalf("%v: %q: %d, but the sentences of %s are %q", g, text, e, s, l)
					}
				}
			}
		}
	}
}

// P14.1 and P14.4: what can follow a beginning, by the sentences.
func TestViableOfRandomGrammars(t *testing.T) {
	r := rand.New(rand.NewSource(144))
	shown, deep := 0, 0
	for range 1500 {
		g, text := random(r), randomText(r, 4)
		sort := g.Sorts[r.Intn(len(g.Sorts))]
		n, next, e := Viable(g, sort, text)
		if e != api.OK || !slices.IsSorted(next) || n < 0 || n > len(text) {
			t.Fatalf("%v of %q: %d, %q, %d", g, text, n, next, e)
		}
		_, e = Parse(g, sort, text)
		if (e == api.OK) != (n == len(text) && slices.Contains(next, "")) {
			t.Fatalf("%v of %q: viable %d, %q, but Parse is %d", g, text, n, next, e)
		}
		l, _ := grammar.Sentences(g, sort, 7)
		for _, s := range l {
			common := 0
			for common < min(len(s), len(text)) && s[common] == text[common] {
				common++
			}
			if common > n {
				t.Fatalf("%v of %q: viable %d, but %q is a sentence", g, text, n, s)
			}
			if common == n {
				follows := append(slices.Clone(s), "")[n]
				if !slices.Contains(next, follows) {
					t.Fatalf("%v of %q: %q can follow, but %q is a sentence", g, text, next, s)
				}
				shown++
			}
		}
		for _, s := range next {
			if s == "" {
				continue
			}
			longer := append(slices.Clone(text[:n]), s)
			if m, _, e := Viable(g, sort, longer); m != n+1 || e != api.OK {
				t.Fatalf("%v: %q can follow %q, but with it viable is %d, %d", g, s, text[:n], m, e)
			}
			deep++
		}
		if len(next) == 0 && !(n == 0 && len(l) == 0) {
			t.Fatalf("%v of %q: viable %d, but nothing can follow", g, text, n)
		}
	}
	if shown < 1000 || deep < 500 {
		t.Errorf("only %d sentences, and %d symbols", shown, deep)
	}
}

// P14.5: names of symbols and labels do not matter.
func TestNames(t *testing.T) {
	r := rand.New(rand.NewSource(145))
	other := func(s string) string {
		if s == "" {
			return ""
		}
		return "not " + strings.Map(func(c rune) rune { return 'z' - (c - 'a') }, s)
	}
	for range 500 {
		g, text := random(r), randomText(r, 5)
		h := grammar.Grammar{Sorts: g.Sorts}
		for _, x := range g.Rules {
			y := grammar.Rule{Label: "z" + strconv.Itoa(len(g.Rules)-len(h.Rules)), Sort: x.Sort}
			for _, p := range x.Parts {
				y.Parts = append(y.Parts, grammar.Part{Symbol: other(p.Symbol), Sort: p.Sort, Arg: p.Arg})
			}
			h.Rules = append(h.Rules, y)
		}
		var renamed []string
		for _, s := range text {
			renamed = append(renamed, other(s))
		}
		a, e := Parse(g, g.Sorts[0], text)
		b, f := Parse(h, g.Sorts[0], renamed)
		if e != f || !sameForest(a, b) {
			t.Fatalf("%v of %q: %v, %d, with other names %v, %d", g, text, a, e, b, f)
		}
	}
}

// P14.1: Check takes just what the definition takes.
func TestCheckOfChangedForests(t *testing.T) {
	r := rand.New(rand.NewSource(146))
	right, wrong := 0, 0
	for range 6000 {
		g, text := random(r), randomText(r, 5)
		f, e := Parse(g, g.Sorts[0], text)
		if e != api.OK {
			continue
		}
		change(r, &f)
		want := api.ErrForm
		if isSound(g, text, f) {
			want = api.OK
			right++
		} else {
			wrong++
		}
		if e := Check(g, text, f); e != want {
			t.Fatalf("%v of %q: Check of %v: %d, want %d", g, text, f, e, want)
		}
	}
	if right < 100 || wrong < 500 {
		t.Errorf("only %d right ones, and %d wrong ones", right, wrong)
	}
}

// change changes one thing of a forest.
func change(r *rand.Rand, f *Forest) {
	n := &f.Nodes[r.Intn(len(f.Nodes))]
	w := &n.Ways[r.Intn(len(n.Ways))]
	switch r.Intn(8) {
	case 0:
		n.From += r.Intn(3) - 1
	case 1:
		n.To += r.Intn(3) - 1
	case 2:
		n.Sort = []string{"u", "s", "t", ""}[r.Intn(4)]
	case 3:
		w.Rule += r.Intn(5) - 2
	case 4:
		if len(w.Kids) > 0 {
			w.Kids[r.Intn(len(w.Kids))] = r.Intn(len(f.Nodes)+2) - 1
		}
	case 5:
		w.Kids = append(w.Kids, 0)
	case 6:
		n.Ways = n.Ways[1:]
	case 7:
		f.Nodes = append(f.Nodes, f.Nodes[r.Intn(len(f.Nodes))])
	}
}

// isSound reports whether a forest is sound, by the definition.
func isSound(g grammar.Grammar, text []string, f Forest) bool {
	known := map[place]bool{}
	for _, n := range f.Nodes {
		x := place{n.Sort, n.From, n.To}
		if known[x] || len(n.Ways) == 0 || n.From < 0 || n.To > len(text) || n.From > n.To {
			return false
		}
		known[x] = true
		for _, w := range n.Ways {
			if w.Rule < 0 || w.Rule >= len(g.Rules) || g.Rules[w.Rule].Sort != n.Sort {
				return false
			}
			found := map[place]bool{}
			for _, k := range w.Kids {
				if k < 0 || k >= len(f.Nodes) {
					return false
				}
			}
			isWay := false
			for _, node := range f.Nodes {
				found[place{node.Sort, node.From, node.To}] = true
			}
			for _, ends := range divided(g.Rules[w.Rule].Parts, text, found, n.From, n.To) {
				isWay = isWay || fits(g.Rules[w.Rule].Parts, ends, f, n, w)
			}
			if !isWay {
				return false
			}
		}
	}
	return true
}

// fits reports whether the Kids of a way are those of the places at which its parts end.
func fits(parts []grammar.Part, ends []int, f Forest, n Node, w Way) bool {
	at, args := n.From, 0
	for i, p := range parts {
		if p.Sort != "" {
			args++
			if p.Arg >= len(w.Kids) {
				return false
			}
			k := f.Nodes[w.Kids[p.Arg]]
			if k.Sort != p.Sort || k.From != at || k.To != ends[i] {
				return false
			}
		}
		at = ends[i]
	}
	return args == len(w.Kids)
}
