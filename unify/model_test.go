package unify

import (
	"math/rand"
	"slices"
	"strconv"
	"strings"
	"testing"

	"apodixis/api"
	"apodixis/frame"
	"apodixis/layout"
	"apodixis/syntax"
)

// database returns the database of a text.
func database(t *testing.T, s string) api.Database {
	t.Helper()
	l, _, e := layout.Parse(strings.Fields(s))
	db, _, f := frame.Database(l)
	if e != api.OK || f != api.OK {
		t.Fatalf("%q: %d, %d", s, e, f)
	}
	return db
}

// logic has two sorts, axioms without kids, and assertions with hypotheses and with pairs.
const logic = `$c wff set |- ( ) -> -. A. T. $. $v ph ps ch x y $. wph $f wff ph $. wps $f wff ps $. wch $f wff ch $. vx $f set x $. vy $f set y $.
wn $a wff -. ph $. wi $a wff ( ph -> ps ) $. tru $a wff T. $. wal $a wff A. x ph $. zero $a set T. $.
a1 $a |- ( ph -> ( ps -> ph ) ) $. ${ min $e |- ph $. maj $e |- ( ph -> ps ) $. mp $a |- ps $. $} ${ $d x ph $. ax5 $a |- ( ph -> A. x ph ) $. $} true $a |- T. $. `

// Numbers of assertions of logic.
const (
	a1 = iota + 5
	mp
	ax5
	isTrue
	count
)

// tree returns the tree that "wi(wph,wn(&wff.0))" writes.
func tree(s string) api.Tree {
	t, _ := readTree(s)
	return t
}

func readTree(s string) (api.Tree, string) {
	n := strings.IndexAny(s+")", "(,)")
	t, s := api.Tree{Label: s[:n]}, s[n:]
	if !strings.HasPrefix(s, "(") {
		return t, s
	}
	for s[0] != ')' {
		k, rest := readTree(s[1:])
		t.Kids, s = append(t.Kids, k), rest
	}
	return t, s[1:]
}

// trees returns the trees that are divided by spaces.
func trees(s string) []api.Tree {
	var l []api.Tree
	for _, x := range strings.Fields(s) {
		l = append(l, tree(x))
	}
	return l
}

func written(t api.Tree) string {
	s := t.Label
	for i, k := range t.Kids {
		s += []string{"(", ","}[min(i, 1)] + written(k)
	}
	if len(t.Kids) > 0 {
		s += ")"
	}
	return s
}

// subs writes a substitution.
func subs(l []Sub) string {
	var s []string
	for _, x := range l {
		s = append(s, x.Label+"="+written(x.Tree))
	}
	return strings.Join(s, " ")
}

// readSubs returns the substitution that subs writes.
func readSubs(s string) []Sub {
	var l []Sub
	for _, x := range strings.Fields(s) {
		label, rest, _ := strings.Cut(x, "=")
		l = append(l, Sub{label, tree(rest)})
	}
	return l
}

// random returns a tree of logic of a sort, with some work variables.
func random(r *rand.Rand, sort string, depth, works int) api.Tree {
	if sort == "set" {
		return api.Tree{Label: []string{"vx", "vy", "zero", "&set." + strconv.Itoa(r.Intn(works))}[r.Intn(4)]}
	}
	labels := []string{"wph", "tru", "wn", "wi", "wi", "wal"}
	label := labels[r.Intn(len(labels))]
	if depth < 2 || r.Intn(3) == 0 {
		label = []string{"wph", "tru", "", "", ""}[r.Intn(5)]
	}
	switch label {
	case "":
		return api.Tree{Label: "&wff." + strconv.Itoa(r.Intn(works))}
	case "wn":
		return api.Tree{Label: label, Kids: []api.Tree{random(r, "wff", depth-1, works)}}
	case "wi":
		return api.Tree{Label: label, Kids: []api.Tree{random(r, "wff", depth-1, works), random(r, "wff", depth-1, works)}}
	case "wal":
		return api.Tree{Label: label, Kids: []api.Tree{random(r, "wff", depth-1, works), random(r, "set", 1, works)}}
	}
	return api.Tree{Label: label}
}

// model follows the definition: classes are lists of texts of subtrees.
type model struct {
	all     []string // the texts of the subtrees, in the order in which they occur first
	classes map[string]int
	works   []string
}

func (m *model) add(t api.Tree) {
	s := written(t)
	if !slices.Contains(m.all, s) {
		m.classes[s] = len(m.all)
		m.all = append(m.all, s)
		if strings.HasPrefix(s, "&") {
			m.works = append(m.works, s)
		}
	}
	for _, k := range t.Kids {
		m.add(k)
	}
}

func (m *model) join(a, b string) bool {
	from, to := m.classes[a], m.classes[b]
	for s, c := range m.classes {
		if c == from {
			m.classes[s] = to
		}
	}
	return from != to
}

// value returns the value of a class, given how deep it may be.
func (m *model) value(class, depth int) (api.Tree, bool) {
	if depth == 0 {
		return api.Tree{}, false
	}
	for _, s := range m.all {
		if m.classes[s] != class || strings.HasPrefix(s, "&") {
			continue
		}
		t := api.Tree{Label: tree(s).Label}
		for _, k := range tree(s).Kids {
			x, ok := m.value(m.classes[written(k)], depth-1)
			if !ok {
				return api.Tree{}, false
			}
			t.Kids = append(t.Kids, x)
		}
		return t, true
	}
	for _, s := range m.works {
		if m.classes[s] == class {
			return tree(s), true
		}
	}
	return api.Tree{}, false
}

// unified returns what Unify returns, by the definition.
func unified(a, b []api.Tree) (string, api.Errno) {
	m := &model{classes: map[string]int{}}
	for i := range a {
		m.add(a[i])
		m.add(b[i])
		m.join(written(a[i]), written(b[i]))
	}
	for grows := true; grows; {
		grows = false
		for _, s := range m.all {
			for _, u := range m.all {
				x, y := tree(s), tree(u)
				if m.classes[s] != m.classes[u] || x.Label != y.Label {
					continue
				}
				for i, k := range x.Kids {
					if m.join(written(k), written(y.Kids[i])) {
						grows = true
					}
				}
			}
		}
	}
	for _, s := range m.all {
		for _, u := range m.all {
			if m.classes[s] == m.classes[u] && s[0] != '&' && u[0] != '&' && tree(s).Label != tree(u).Label {
				return "", ErrClash
			}
		}
	}
	var l []Sub
	for _, s := range m.all {
		if _, ok := m.value(m.classes[s], len(m.all)+1); !ok {
			return "", ErrOccurs
		}
	}
	for _, s := range m.works {
		if x, _ := m.value(m.classes[s], len(m.all)+1); written(x) != s {
			l = append(l, Sub{s, x})
		}
	}
	return subs(l), api.OK
}

// apply returns a tree under a substitution, by the definition.
func apply(t api.Tree, l []Sub) api.Tree {
	for _, s := range l {
		if len(t.Kids) == 0 && s.Label == t.Label {
			return s.Tree
		}
	}
	u := api.Tree{Label: t.Label}
	for _, k := range t.Kids {
		u.Kids = append(u.Kids, apply(k, l))
	}
	return u
}

// P18.1, P18.2 and P18.5: unification by the definition, and what its result does.
func TestUnifyOfRandomTrees(t *testing.T) {
	r := rand.New(rand.NewSource(18))
	db := database(t, logic)
	ends := map[api.Errno]int{}
	for range 2500 {
		var a, b []api.Tree
		for range r.Intn(4) {
			sort := []string{"wff", "wff", "set"}[r.Intn(3)]
			a = append(a, random(r, sort, 4, 4))
			b = append(b, random(r, sort, 4, 4))
		}
		want, e := unified(a, b)
		l, f := Unify(db, a, b)
		if e != f || subs(l) != want {
			t.Fatalf("%v with %v: %s, %d, want %s, %d", a, b, subs(l), f, want, e)
		}
		ends[e]++
		back, f := Unify(db, b, a)
		if e != f {
			t.Fatalf("%v with %v: %d, exchanged %d", a, b, e, f)
		}
		if e != api.OK {
			continue
		}
		var works []string
		for i := range a {
			works = append(append(works, Works(a[i])...), Works(b[i])...)
			x, _ := Apply(a[i], l)
			y, _ := Apply(b[i], l)
			twice, _ := Apply(x, l)
			if !syntax.Equal(x, y) || !syntax.Equal(x, twice) {
				t.Fatalf("%v with %v by %s: %s, %s, and twice %s", a, b, subs(l), written(x), written(y), written(twice))
			}
			x, _ = Apply(a[i], back)
			y, _ = Apply(b[i], back)
			if !syntax.Equal(x, y) {
				t.Fatalf("%v with %v by %s: %s, %s", a, b, subs(back), written(x), written(y))
			}
		}
		for _, s := range l {
			for _, w := range append(Works(s.Tree), s.Label) {
				if !slices.Contains(works, w) {
					t.Fatalf("%v with %v: %s names %s", a, b, subs(l), w)
				}
			}
		}
	}
	if ends[api.OK] < 500 || ends[ErrClash] < 500 || ends[ErrOccurs] < 20 {
		t.Errorf("ends: %v", ends)
	}
}

// P18.3: a substitution that makes trees equal is one behind Unify's.
func TestMostGeneral(t *testing.T) {
	r := rand.New(rand.NewSource(183))
	db := database(t, logic)
	for range 1500 {
		var other []Sub
		for i := range 4 {
			n := strconv.Itoa(i)
			other = append(other, Sub{"&wff." + n, random(r, "wff", 3, 3)}, Sub{"&set." + n, random(r, "set", 1, 3)})
		}
		// Parts of an instance are taken away, so that some substitution gives them back.
		var a, b []api.Tree
		next := 4
		for range 1 + r.Intn(2) {
			x := random(r, "wff", 4, 4)
			y := apply(x, other)
			var l []Sub
			y, l = hollowed(r, y, &next)
			other = append(other, l...)
			a, b = append(a, x), append(b, y)
		}
		for i := range a {
			if !syntax.Equal(apply(a[i], other), apply(b[i], other)) {
				a, b = nil, nil // a work variable of the instance is changed again
				break
			}
		}
		l, e := Unify(db, a, b)
		if e != api.OK {
			t.Fatalf("%v with %v are made equal by %s: %d", a, b, subs(other), e)
		}
		for _, s := range other {
			x := apply(api.Tree{Label: s.Label}, l)
			if !syntax.Equal(apply(x, other), s.Tree) {
				t.Fatalf("%v with %v by %s: %s is changed: %s", a, b, subs(l), subs(other), written(apply(x, other)))
			}
		}
	}
}

// hollowed returns a tree in which parts become new work variables, and what these are.
func hollowed(r *rand.Rand, t api.Tree, next *int) (api.Tree, []Sub) {
	if r.Intn(6) == 0 {
		sort := "wff"
		if t.Label[0] == 'v' || t.Label == "zero" || strings.HasPrefix(t.Label, "&set") {
			sort = "set"
		}
		*next++
		label := "&" + sort + "." + strconv.Itoa(*next)
		return api.Tree{Label: label}, []Sub{{label, t}}
	}
	u := api.Tree{Label: t.Label}
	var all []Sub
	for _, k := range t.Kids {
		x, l := hollowed(r, k, next)
		u.Kids = append(u.Kids, x)
		all = append(all, l...)
	}
	return u, all
}

// matched returns what Match returns, by the definition.
func matched(pattern, t api.Tree, l *[]Sub) bool {
	isOpen := strings.HasPrefix(pattern.Label, "&") || slices.Contains([]string{"wph", "wps", "wch", "vx", "vy"}, pattern.Label)
	if isOpen {
		for _, s := range *l {
			if s.Label == pattern.Label {
				return written(s.Tree) == written(t)
			}
		}
		*l = append(*l, Sub{pattern.Label, t})
		return true
	}
	if pattern.Label != t.Label {
		return false
	}
	for i, k := range pattern.Kids {
		if !matched(k, t.Kids[i], l) {
			return false
		}
	}
	return true
}

// P18.4: matching by the definition, and what its result does.
func TestMatchOfRandomTrees(t *testing.T) {
	r := rand.New(rand.NewSource(184))
	db := database(t, logic)
	ends := map[api.Errno]int{}
	for i := range 3000 {
		sort := []string{"wff", "wff", "wff", "set"}[i%4]
		pattern, x := random(r, sort, 3, 2), random(r, sort, 5, 3)
		if i%3 == 0 {
			x = apply(pattern, []Sub{{"&wff.0", random(r, "wff", 3, 3)}, {"wph", random(r, "wff", 3, 3)}, {"&set.1", random(r, "set", 1, 3)}})
		}
		var want []Sub
		e := api.OK
		if !matched(pattern, x, &want) {
			want, e = nil, ErrClash
		}
		l, f := Match(db, pattern, x)
		if e != f || subs(l) != subs(want) {
			t.Fatalf("%s to %s: %s, %d, want %s, %d", written(pattern), written(x), subs(l), f, subs(want), e)
		}
		ends[e]++
		if got, f := Apply(pattern, l); e == api.OK && (f != api.OK || !syntax.Equal(got, x)) {
			t.Fatalf("%s by %s: %s, %d, want %s", written(pattern), subs(l), written(got), f, written(x))
		}
		l, e = Match(db, x, x)
		if e != api.OK || slices.ContainsFunc(l, func(s Sub) bool { return s.Label != written(s.Tree) }) {
			t.Fatalf("%s to itself: %s, %d", written(x), subs(l), e)
		}
		for label := range leaves(x) {
			if label != "tru" && label != "zero" && !slices.ContainsFunc(l, func(s Sub) bool { return s.Label == label }) {
				t.Fatalf("%s to itself: %s without %s", written(x), subs(l), label)
			}
		}
	}
	if ends[api.OK] < 500 || ends[ErrClash] < 500 {
		t.Errorf("ends: %v", ends)
	}
}

// P18.1 and P18.5: Apply by the definition, and the sort of what it returns.
func TestApplyOfRandomTrees(t *testing.T) {
	r := rand.New(rand.NewSource(185))
	db := database(t, logic)
	for i := range 1000 {
		sort := []string{"wff", "wff", "set"}[i%3]
		x := random(r, sort, 5, 3)
		var l []Sub
		for range r.Intn(6) {
			n := strconv.Itoa(r.Intn(3))
			l = append(l, Sub{"&wff." + n, random(r, "wff", 3, 3)}, Sub{"&set." + n, random(r, "set", 1, 3)}, Sub{"wph", random(r, "wff", 2, 3)})
		}
		y, e := Apply(x, l)
		if e != api.OK || written(y) != written(apply(x, l)) {
			t.Fatalf("%s by %s: %s, %d", written(x), subs(l), written(y), e)
		}
		if s, e := Sort(db, y); e != api.OK || s != sort {
			t.Fatalf("%s by %s: %s of %q, %d", written(x), subs(l), written(y), s, e)
		}
		var works []string
		for label := range leaves(x) {
			if label[0] == '&' && !slices.Contains(works, label) {
				works = append(works, label)
			}
		}
		if got := Works(x); !slices.Equal(got, works) {
			t.Fatalf("%s: %q, want %q", written(x), got, works)
		}
	}
}

// P18.1: what pairs require, by the definition.
func TestApartOfRandomTrees(t *testing.T) {
	r := rand.New(rand.NewSource(186))
	db := database(t, logic)
	labels := []string{"wph", "wps", "vx", "vy", "&wff.0", "&wff.1", "&set.0"}
	broken, required := 0, 0
	for range 3000 {
		var l []Sub
		for range r.Intn(4) {
			l = append(l, Sub{labels[r.Intn(len(labels))], random(r, "wff", 3, 3)})
		}
		var pairs []api.Pair
		for range r.Intn(3) {
			pairs = append(pairs, api.Pair{A: labels[r.Intn(len(labels))], B: labels[r.Intn(len(labels))]})
		}
		found, e := map[string]bool{}, api.OK
		for _, p := range pairs {
			for x := range leaves(apply(api.Tree{Label: p.A}, l)) {
				for y := range leaves(apply(api.Tree{Label: p.B}, l)) {
					if x == "tru" || y == "tru" || x == "zero" || y == "zero" {
						continue
					}
					if x == y && x[0] != '&' {
						e = api.ErrApart
					}
					found[min(x, y)+" "+max(x, y)] = true
				}
			}
		}
		var want []string
		for s := range found {
			want = append(want, s)
		}
		slices.SortFunc(want, func(a, b string) int { return slices.Compare(strings.Fields(a), strings.Fields(b)) })
		got, f := Apart(db, l, pairs)
		var texts []string
		for _, p := range got {
			texts = append(texts, p.A+" "+p.B)
		}
		if e != f || e == api.OK && !slices.Equal(texts, want) || e != api.OK && got != nil {
			t.Fatalf("%v by %s: %q, %d, want %q, %d", pairs, subs(l), texts, f, want, e)
		}
		if e != api.OK {
			broken++
		} else if len(want) > 0 {
			required++
		}
	}
	if broken < 200 || required < 500 {
		t.Errorf("only %d broken, and %d with pairs", broken, required)
	}
}
