package grammar

import (
	"math/rand"
	"slices"
	"sort"
	"strconv"
	"strings"
	"testing"

	"apodixis/api"
)

// grammarOf returns a grammar whose rules are written as their label, their sort and their parts; a part that is a sort is an argument, and the arguments have their order.
func grammarOf(sorts string, rules ...string) Grammar {
	g := Grammar{Sorts: strings.Fields(sorts)}
	for _, s := range rules {
		l := strings.Fields(s)
		r := Rule{Label: l[0], Sort: l[1]}
		args := 0
		for _, p := range l[2:] {
			if slices.Contains(g.Sorts, p) {
				r.Parts = append(r.Parts, Part{Sort: p, Arg: args})
				args++
			} else {
				r.Parts = append(r.Parts, Part{Symbol: p})
			}
		}
		g.Rules = append(g.Rules, r)
	}
	return g
}

// random returns a small grammar, often with rules for nothing, with circles and with sorts without expressions.
func random(r *rand.Rand) Grammar {
	g := Grammar{Sorts: []string{"u", "s", "t"}[:1+r.Intn(3)]}
	for i := range 1 + r.Intn(6) {
		x := Rule{Label: "r" + strconv.Itoa(i), Sort: g.Sorts[r.Intn(len(g.Sorts))]}
		var args []int
		for range r.Intn(4) {
			if r.Intn(2) == 0 {
				x.Parts = append(x.Parts, Part{Symbol: string(rune('a' + r.Intn(3)))})
				continue
			}
			args = append(args, len(x.Parts))
			x.Parts = append(x.Parts, Part{Sort: g.Sorts[r.Intn(len(g.Sorts))]})
		}
		for arg, i := range r.Perm(len(args)) {
			x.Parts[args[i]].Arg = arg
		}
		if len(x.Parts) == 1 && len(args) == 0 {
			x.Variable = r.Intn(2) == 0
		}
		g.Rules = append(g.Rules, x)
	}
	return g
}

// expressions returns the expressions of all sorts up to a length, as the document tells it, written with spaces around each symbol.
func expressions(g Grammar, most int) map[string]map[string]bool {
	found := map[string]map[string]bool{}
	for _, s := range g.Sorts {
		found[s] = map[string]bool{}
	}
	for grows := true; grows; {
		grows = false
		for _, r := range g.Rules {
			texts := map[string]bool{" ": true}
			for _, p := range r.Parts {
				longer := map[string]bool{}
				for a := range texts {
					if p.Sort == "" {
						longer[a+p.Symbol+" "] = true
					}
					for b := range found[p.Sort] {
						longer[a+b[1:]] = true
					}
				}
				texts = longer
			}
			for s := range texts {
				if len(strings.Fields(s)) <= most && !found[r.Sort][s] {
					found[r.Sort][s], grows = true, true
				}
			}
		}
	}
	return found
}

// arranged returns texts in the order of Sentences.
func arranged(set map[string]bool) [][]string {
	var l [][]string
	for s := range set {
		l = append(l, strings.Fields(s))
	}
	sort.Slice(l, func(i, j int) bool {
		if len(l[i]) != len(l[j]) {
			return len(l[i]) < len(l[j])
		}
		return slices.Compare(l[i], l[j]) < 0
	})
	return l
}

func equal(a, b [][]string) bool { return slices.EqualFunc(a, b, slices.Equal[[]string]) }

// long is the length up to which the models look: it shows what the small grammars of random have, as no rule has more than three parts.
const long = 5

// P13.1 and P13.2: Sentences, and what the shorter functions say of them.
func TestSentencesOfRandomGrammars(t *testing.T) {
	r := rand.New(rand.NewSource(13))
	several := 0
	for range 600 {
		g := random(r)
		all := expressions(g, long)
		nullable, _ := Nullable(g)
		for _, s := range g.Sorts {
			want := arranged(all[s])
			got, e := Sentences(g, s, long)
			if e != api.OK || !equal(got, want) {
				t.Fatalf("%v of %s: %q, %d, want %q", g, s, got, e, want)
			}
			if len(want) > 5 {
				several++
			}
			for most := range long {
				isShort := func(l []string) bool { return len(l) <= most }
				var short [][]string
				for _, l := range want {
					if isShort(l) {
						short = append(short, l)
					}
				}
				if got, e := Sentences(g, s, most); e != api.OK || !equal(got, short) {
					t.Fatalf("%v of %s up to %d: %q, %d, want %q", g, s, most, got, e, short)
				}
			}
			if empty, _ := Sentences(g, s, 0); slices.Contains(nullable, s) != (len(empty) == 1) {
				t.Fatalf("%v: nullable: %q, but of %s %q", g, nullable, s, empty)
			}
			n, e := Least(g, s)
			if len(want) > 0 && (n != len(want[0]) || e != api.OK) {
				t.Fatalf("%v: the least of %s: %d, %d, want %q", g, s, n, e, want[0])
			}
			if productive, _ := Productive(g); slices.Contains(productive, s) != (e == api.OK) || e != api.OK && (e != api.ErrNone || n != 0) {
				t.Fatalf("%v: productive: %q, but of %s %d, %d", g, productive, s, n, e)
			}
		}
	}
	if several < 150 {
		t.Errorf("only %d sorts with several sentences", several)
	}
}

// P13.2: First has all first symbols of sentences, and no others where it ends soon.
func TestFirstOfRandomGrammars(t *testing.T) {
	r := rand.New(rand.NewSource(132))
	shown := 0
	for range 400 {
		g := random(r)
		all := expressions(g, long)
		for _, s := range g.Sorts {
			want := map[string]bool{}
			for x := range all[s] {
				if l := strings.Fields(x); len(l) > 0 {
					want[l[0]] = true
				}
			}
			got, e := First(g, s)
			if e != api.OK || !slices.IsSorted(got) || len(slices.Compact(slices.Clone(got))) != len(got) {
				t.Fatalf("%v: First of %s: %q, %d", g, s, got, e)
			}
			for x := range want {
				if !slices.Contains(got, x) {
					t.Fatalf("%v: First of %s: %q without %s", g, s, got, x)
				}
			}
			for _, x := range got {
				if want[x] {
					shown++
				} else if n, ok := leastWith(g, s, x); !ok || n <= long {
					t.Fatalf("%v: First of %s: %q with %s, which begins one of length %d, %t", g, s, got, x, n, ok)
				}
			}
		}
	}
	if shown < 300 {
		t.Errorf("only %d first symbols", shown)
	}
}

// leastWith returns the least length of an expression of a sort that begins with a symbol: the least one of a further sort for each sort, those that begin so.
func leastWith(g Grammar, sort, symbol string) (int, bool) {
	h := Grammar{Sorts: slices.Clone(g.Sorts), Rules: slices.Clone(g.Rules)}
	for _, s := range g.Sorts {
		h.Sorts = append(h.Sorts, "first "+s)
	}
	empty := expressions(g, 0)
	for i, r := range g.Rules {
		for j, p := range r.Parts {
			var parts []Part
			if p.Sort != "" {
				parts = append(parts, Part{Sort: "first " + p.Sort})
			} else if p.Symbol == symbol {
				parts = append(parts, p)
			}
			if len(parts) > 0 {
				h.Rules = append(h.Rules, Rule{Label: strconv.Itoa(i) + "/" + strconv.Itoa(j), Sort: "first " + r.Sort, Parts: numbered(append(parts, r.Parts[j+1:]...))})
			}
			if len(empty[p.Sort]) == 0 {
				break
			}
		}
	}
	n, e := Least(h, "first "+sort)
	return n, e == api.OK
}

// numbered returns parts whose arguments have new numbers.
func numbered(parts []Part) []Part {
	args := 0
	for i := range parts {
		if parts[i].Sort != "" {
			parts[i].Arg = args
			args++
		}
	}
	return parts
}

// P13.1: Reachable and Cyclic, by the definitions.
func TestStepsOfRandomGrammars(t *testing.T) {
	r := rand.New(rand.NewSource(133))
	circles := 0
	for range 1500 {
		g := random(r)
		empty, some := expressions(g, 0), map[string]bool{}
		for _, s := range g.Sorts {
			_, e := Least(g, s)
			some[s] = e == api.OK
		}
		reaches, leads := map[[2]string]bool{}, map[[2]string]bool{}
		for _, x := range g.Rules {
			for i, p := range x.Parts {
				others := slices.Delete(slices.Clone(x.Parts), i, i+1)
				reaches[[2]string{x.Sort, p.Sort}] = true
				isFull := func(p Part) bool { return len(empty[p.Sort]) == 0 }
				if some[p.Sort] && !slices.ContainsFunc(others, isFull) {
					leads[[2]string{x.Sort, p.Sort}] = true
				}
			}
		}
		var cyclic []string
		for _, s := range g.Sorts {
			var reached []string
			for _, to := range g.Sorts {
				if s == to || path(g, reaches, s, to) {
					reached = append(reached, to)
				}
			}
			if got, e := Reachable(g, s); e != api.OK || !slices.Equal(got, reached) {
				t.Fatalf("%v: reachable from %s: %q, %d, want %q", g, s, got, e, reached)
			}
			if path(g, leads, s, s) {
				cyclic = append(cyclic, s)
				circles++
			}
		}
		if got, e := Cyclic(g); e != api.OK || !slices.Equal(got, cyclic) {
			t.Fatalf("%v: cyclic: %q, %d, want %q", g, got, e, cyclic)
		}
	}
	if circles < 100 {
		t.Errorf("only %d circles", circles)
	}
}

// path reports whether one or more steps lead from a sort to another one.
func path(g Grammar, steps map[[2]string]bool, from, to string) bool {
	found := map[string]bool{}
	for range g.Sorts {
		for _, s := range g.Sorts {
			for _, next := range g.Sorts {
				if (s == from || found[s]) && steps[[2]string{s, next}] {
					found[next] = true
				}
			}
		}
	}
	return found[to]
}

// P13.3: with one rule more nothing is lost.
func TestGrowth(t *testing.T) {
	r := rand.New(rand.NewSource(134))
	isPart := func(a, b []string) bool {
		return !slices.ContainsFunc(a, func(s string) bool { return !slices.Contains(b, s) })
	}
	for range 500 {
		g := random(r)
		less := Grammar{Sorts: g.Sorts, Rules: g.Rules[:len(g.Rules)-1]}
		for _, list := range []func(Grammar) ([]string, api.Errno){Nullable, Productive, Cyclic} {
			a, _ := list(less)
			b, _ := list(g)
			if !isPart(a, b) {
				t.Fatalf("%v: %q, with a rule more %q", less, a, b)
			}
		}
		for _, s := range g.Sorts {
			for _, list := range []func(Grammar, string) ([]string, api.Errno){Reachable, First} {
				a, _ := list(less, s)
				b, _ := list(g, s)
				if !isPart(a, b) {
					t.Fatalf("%v, %s: %q, with a rule more %q", less, s, a, b)
				}
			}
			a, e := Least(less, s)
			b, f := Least(g, s)
			if e == api.OK && (f != api.OK || b > a) {
				t.Fatalf("%v, %s: the least is %d, with a rule more %d, %d", less, s, a, b, f)
			}
			x, _ := Sentences(less, s, 4)
			y, _ := Sentences(g, s, 4)
			for _, l := range x {
				if !slices.ContainsFunc(y, func(k []string) bool { return slices.Equal(k, l) }) {
					t.Fatalf("%v, %s: %q is lost with a rule more", less, s, l)
				}
			}
		}
	}
}

// P13.4: other names make other names of the results.
func TestNames(t *testing.T) {
	r := rand.New(rand.NewSource(135))
	rename := func(s string) string {
		if s == "" {
			return ""
		}
		return "x" + strings.Map(func(c rune) rune { return 'z' - (c - 'a') }, s)
	}
	renamed := func(l []string) []string {
		var result []string
		for _, s := range l {
			result = append(result, rename(s))
		}
		return result
	}
	for range 300 {
		g := random(r)
		h := Grammar{Sorts: renamed(g.Sorts)}
		for _, x := range g.Rules {
			y := Rule{Label: "other " + x.Label, Sort: rename(x.Sort), Variable: x.Variable}
			for _, p := range x.Parts {
				y.Parts = append(y.Parts, Part{Symbol: rename(p.Symbol), Sort: rename(p.Sort), Arg: p.Arg})
			}
			h.Rules = append(h.Rules, y)
		}
		for _, list := range []func(Grammar) ([]string, api.Errno){Nullable, Productive, Cyclic} {
			a, _ := list(g)
			if b, _ := list(h); !slices.Equal(renamed(a), b) {
				t.Fatalf("%v: %q, with other names %q", g, a, b)
			}
		}
		for _, s := range g.Sorts {
			a, _ := Reachable(g, s)
			if b, _ := Reachable(h, rename(s)); !slices.Equal(renamed(a), b) {
				t.Fatalf("%v: %q, with other names %q", g, a, b)
			}
			a, _ = First(g, s)
			b := renamed(a)
			slices.Sort(b)
			if got, _ := First(h, rename(s)); !slices.Equal(got, b) {
				t.Fatalf("%v: %q, with other names %q", g, a, got)
			}
			x, _ := Sentences(g, s, 4)
			set := map[string]bool{}
			for _, l := range x {
				set[" "+strings.Join(renamed(l), " ")+" "] = true
			}
			if y, _ := Sentences(h, rename(s), 4); !equal(y, arranged(set)) {
				t.Fatalf("%v: %q, with other names %q", g, x, y)
			}
		}
	}
}
