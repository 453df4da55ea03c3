package define

import (
	"math/rand"
	"slices"
	"strconv"
	"strings"
	"testing"

	"apodixis/api"
	"apodixis/frame"
	"apodixis/syntax"
)

// sign is a syntax axiom of a random database: the variables of its expressions stand behind its symbol, in an order of their own.
type sign struct {
	label, symbol string
	sorts         []string // of its expressions, in the order of its floating hypotheses
	order         []int    // in which they stand in its text
}

// The variables of random databases; the first ones are those of syntax axioms.
var variablesOf = map[string][]string{"wff": {"p", "q", "r"}, "set": {"x", "y", "z"}}

// world is a random database, with the trees of its formulas.
type world struct {
	r      *rand.Rand
	isCalm bool // whether only definitions have definienda
	signs  []sign
	db     api.Database
	trees  map[int]api.Tree // of the asserted formulas that have one
}

// sort returns the sort of a label.
func (w *world) sort(label string) string {
	if v, ok := strings.CutPrefix(label, "f"); ok && len(v) == 1 {
		if slices.Contains(variablesOf["set"], v) {
			return "set"
		}
	}
	return "wff"
}

// tree returns a random tree of a sort whose labels are permitted.
func (w *world) tree(sort string, depth int, isPermitted func(sign) bool) api.Tree {
	s := w.signs[w.r.Intn(len(w.signs))]
	if sort == "set" || depth == 0 || w.r.Intn(4) == 0 || !isPermitted(s) {
		return api.Tree{Label: "f" + variablesOf[sort][w.r.Intn(3)]}
	}
	t := api.Tree{Label: s.label}
	for _, k := range s.sorts {
		t.Kids = append(t.Kids, w.tree(k, depth-1, isPermitted))
	}
	return t
}

// text returns the symbols of a tree.
func (w *world) text(t api.Tree) []string {
	for _, s := range w.signs {
		if s.label == t.Label {
			l := []string{s.symbol}
			for _, k := range s.order {
				l = append(l, w.text(t.Kids[k])...)
			}
			return l
		}
	}
	return []string{t.Label[1:]}
}

// assertion adds an assertion, with random disjoint pairs.
func (w *world) assertion(label string, isTheorem bool, text []string, premises [][]string) {
	f := api.Frame{Label: label, Theorem: isTheorem, Text: text}
	all := slices.Concat(append(premises, text)...)
	for _, sort := range []string{"wff", "set"} {
		for _, v := range variablesOf[sort] {
			h := api.Hyp{Label: "f" + v, Floating: true, Text: []string{sort, v}}
			if slices.Contains(all, v) {
				f.Hyps = append(f.Hyps, h)
			} else {
				f.Dummies = append(f.Dummies, h)
			}
		}
	}
	for n, p := range premises {
		f.Hyps = append(f.Hyps, api.Hyp{Label: label + "." + strconv.Itoa(n), Text: p})
	}
	few := w.r.Intn(4)
	for _, a := range []string{"p", "q", "r", "x", "y", "z"} {
		for _, b := range []string{"p", "q", "r", "x", "y", "z"} {
			if a < b && (few == 0 || w.r.Intn(few) == 0) {
				f.Wide = append(f.Wide, api.Pair{A: a, B: b})
				if slices.Contains(all, a) && slices.Contains(all, b) {
					f.Apart = append(f.Apart, api.Pair{A: a, B: b})
				}
			}
		}
	}
	w.db.Frames = append(w.db.Frames, f)
}

// newWorld returns a random database, in which many axioms are definitions, or nearly so.
func newWorld(r *rand.Rand) *world {
	w := &world{r: r, isCalm: r.Intn(2) == 0, trees: map[int]api.Tree{}, db: api.Database{Variables: strings.Fields("p q r x y z"), Constants: strings.Fields("wff set |-")}}
	for n := range 4 + r.Intn(4) {
		s := sign{label: "w" + strconv.Itoa(n), symbol: strconv.Itoa(n)}
		if n < 2 { // equalities
			s.sorts = []string{"wff", "wff"}
		}
		if n >= 2 {
			s.sorts = slices.Repeat([]string{"wff"}, r.Intn(3))
			s.sorts = append(s.sorts, slices.Repeat([]string{"set"}, r.Intn(3))...)
		}
		s.order = r.Perm(len(s.sorts))
		w.signs = append(w.signs, s)
		w.db.Constants = append(w.db.Constants, s.symbol)
	}
	added := 0
	for len(w.db.Frames) < 14 || added < len(w.signs) {
		if added < len(w.signs) && r.Intn(2) == 0 {
			w.axiom(w.signs[added])
			added++
			continue
		}
		w.asserted(added)
	}
	return w
}

// axiom adds a syntax axiom.
func (w *world) axiom(s sign) {
	var names []string
	next := map[string]int{}
	for _, sort := range s.sorts {
		names = append(names, variablesOf[sort][next[sort]])
		next[sort]++
	}
	text := []string{"wff", s.symbol}
	for _, k := range s.order {
		text = append(text, names[k])
	}
	w.assertion(s.label, false, text, nil)
}

// asserted adds an assertion with the turnstile, perhaps with premises. Most of them use only signs up to a number.
func (w *world) asserted(added int) {
	limit := w.r.Intn(added + 1)
	if w.isCalm {
		limit = 2
	}
	isLatest := w.r.Intn(2) == 0 && added > 2 // a definition of the latest syntax axiom
	if isLatest {
		limit = added - 1
	}
	early := func(s sign) bool {
		n, _ := strconv.Atoi(s.symbol)
		return n < limit || n == limit && w.r.Intn(3) == 0 || !w.isCalm && w.r.Intn(12) == 0
	}
	t := w.tree("wff", 2, early)
	switch {
	case isLatest:
		t = w.equality(w.signs[added-1], early)
	case !w.isCalm && w.r.Intn(3) > 0:
		t = w.equality(w.signs[w.r.Intn(len(w.signs))], early)
	}
	var premises [][]string
	if w.r.Intn(8) == 0 {
		premises = append(premises, append([]string{[]string{"|-", "wff"}[w.r.Intn(2)]}, w.text(w.tree("wff", 1, early))...))
	}
	text := append([]string{"|-"}, w.text(t)...)
	if w.r.Intn(10) == 0 {
		text = append(text, "0")
	} else {
		w.trees[len(w.db.Frames)] = t
	}
	w.assertion("a"+strconv.Itoa(len(w.db.Frames)), w.r.Intn(10) == 0, text, premises)
}

// equality returns a tree with a sign on its left side, mostly with different variables.
func (w *world) equality(s sign, isPermitted func(sign) bool) api.Tree {
	left := api.Tree{Label: s.label}
	next := map[string]int{}
	for _, sort := range s.sorts {
		left.Kids = append(left.Kids, api.Tree{Label: "f" + variablesOf[sort][next[sort]]})
		next[sort]++
	}
	if len(left.Kids) > 0 && w.r.Intn(8) == 0 {
		k := w.r.Intn(len(left.Kids))
		left.Kids[k] = w.tree(s.sorts[k], 1, isPermitted)
	}
	right := w.tree("wff", 2, isPermitted)
	if w.r.Intn(2) == 0 {
		right = w.closed(right, left.Kids)
	}
	return api.Tree{Label: w.signs[w.r.Intn(2)].label, Kids: []api.Tree{left, right}}
}

// closed returns a tree whose variables are among some trees, as far as these have their sorts.
func (w *world) closed(t api.Tree, l []api.Tree) api.Tree {
	if t.Label[0] == 'f' {
		for _, x := range l {
			if x.Label[0] == 'f' && w.sort(x.Label) == w.sort(t.Label) {
				return x
			}
		}
	}
	result := api.Tree{Label: t.Label}
	for _, k := range t.Kids {
		result.Kids = append(result.Kids, w.closed(k, l))
	}
	return result
}

// check returns what the document says of an assertion as a definition.
func (w *world) check(r Rules, i int) (Definition, api.Errno) {
	f := w.db.Frames[i]
	if f.Theorem || f.Text[0] != "|-" {
		return Definition{}, api.ErrState
	}
	if n := len(f.Hyps); n > 0 && !f.Hyps[n-1].Floating {
		return Definition{}, ErrHyps
	}
	t, ok := w.trees[i]
	if !ok {
		return Definition{}, syntax.ErrParse
	}
	if !slices.Contains(r.Equal, t.Label) {
		return Definition{}, ErrEqual
	}
	d := Definition{Label: t.Kids[0].Label, Right: t.Kids[1]}
	for _, k := range t.Kids[0].Kids {
		if k.Label[0] != 'f' || slices.Contains(d.Args, k.Label) {
			return Definition{}, ErrArgs
		}
		d.Args = append(d.Args, k.Label)
	}
	if d.Label[0] == 'f' {
		return Definition{}, ErrArgs
	}
	var right []string
	var walk func(t api.Tree)
	walk = func(t api.Tree) {
		right = append(right, t.Label)
		for _, k := range t.Kids {
			walk(k)
		}
	}
	walk(t.Kids[1])
	for _, label := range right {
		if label[0] == 'f' && !slices.Contains(d.Args, label) && !slices.Contains(d.Dummies, label) {
			d.Dummies = append(d.Dummies, label)
		}
	}
	return d, w.conditions(r, i, d, right)
}

// conditions returns the error of a definition whose parts are right.
func (w *world) conditions(r Rules, i int, d Definition, right []string) api.Errno {
	symbol := strings.TrimPrefix(d.Label, "w")
	for _, f := range w.db.Frames[:i] {
		for _, text := range append(premisesOf(f), f.Text) {
			if _, e := syntax.Tree(w.db, text); text[0] == "|-" && e == api.OK && slices.Contains(text, symbol) {
				return ErrNew
			}
		}
	}
	if frame.Find(w.db, d.Label) > i {
		return ErrNew
	}
	if slices.Contains(right, d.Label) {
		return ErrCircle
	}
	for _, v := range d.Dummies {
		if !slices.Contains(r.Bound, w.sort(v)) {
			return ErrBound
		}
	}
	for _, v := range d.Dummies {
		for _, u := range slices.Concat(d.Args, d.Dummies) {
			a, b := min(u[1:], v[1:]), max(u[1:], v[1:])
			if u != v && !slices.Contains(w.db.Frames[i].Apart, api.Pair{A: a, B: b}) {
				return ErrDummy
			}
		}
	}
	return api.OK
}

func premisesOf(f api.Frame) [][]string {
	var l [][]string
	for _, h := range f.Hyps {
		if !h.Floating {
			l = append(l, h.Text)
		}
	}
	return l
}

// P19.1 to P19.4: random databases.
func TestRandomDatabases(t *testing.T) {
	r := rand.New(rand.NewSource(19))
	counts := map[api.Errno]int{}
	greatest := 0
	for range 250 {
		w := newWorld(r)
		if e := frame.Check(w.db); e != api.OK {
			t.Fatalf("%v: %d", w.db, e)
		}
		rules := Rules{Equal: []string{"w0", "w1"}[:1+r.Intn(2)], Bound: []string{"set", "wff"}[:r.Intn(3)]}
		var definitions []int
		ranks := map[string]int{}
		for i := range w.db.Frames {
			d, want := w.check(rules, i)
			e := Check(w.db, rules, i)
			if e != want {
				t.Fatalf("%v, %v: %d, want %d", rules, w.db.Frames[:i+1], e, want)
			}
			counts[e]++
			got, e := Parts(w.db, rules, i)
			if isOfParts := want != api.OK && (want < ErrNew || want > ErrDummy); isOfParts && e != want || !isOfParts && (e != api.OK || !same(got, d)) {
				t.Fatalf("%v, %v: %v, %d, want %v, %d", rules, w.db.Frames[i], got, e, d, want)
			}
			if want == api.OK {
				definitions = append(definitions, i)
				ranks[d.Label] = 0
			}
		}
		greatest = max(greatest, w.checkLists(t, rules, definitions))
		if len(ranks) != len(definitions) {
			t.Fatalf("%v: two definitions of one axiom: %v", w.db, definitions)
		}
	}
	for _, e := range []api.Errno{api.OK, api.ErrState, ErrHyps, syntax.ErrParse, ErrEqual, ErrArgs, ErrNew, ErrCircle, ErrBound, ErrDummy} {
		if counts[e] < 6 {
			t.Errorf("the error %d came %d times", e, counts[e])
		}
	}
	if greatest < 2 {
		t.Errorf("the greatest rank was %d", greatest)
	}
}

// checkLists checks All, Of and Ranks, and that a further axiom changes no definition; it returns the greatest rank.
func (w *world) checkLists(t *testing.T, rules Rules, definitions []int) int {
	t.Helper()
	l, e := All(w.db, rules)
	if e != api.OK || !slices.Equal(l, definitions) {
		t.Fatalf("All of %v: %v, %d, want %v", w.db, l, e, definitions)
	}
	ranks, e := Ranks(w.db, rules)
	if e != api.OK || len(ranks) != len(l) {
		t.Fatalf("Ranks of %v: %v, %d", w.db, ranks, e)
	}
	known := map[string]int{}
	greatest := 0
	for k, i := range l {
		d, _ := Parts(w.db, rules, i)
		want := 1
		for label, rank := range known {
			if text, _ := syntax.Write(d.Right); strings.Contains(text, label) {
				want = max(want, rank+1)
			}
		}
		if ranks[k] != want {
			t.Fatalf("the rank of %d in %v: %d, want %d", i, w.db, ranks[k], want)
		}
		known[d.Label] = want
		greatest = max(greatest, want)
		if n, e := Of(w.db, rules, d.Label); e != api.OK || n != i {
			t.Fatalf("Of %s in %v: %d, %d, want %d", d.Label, w.db, n, e, i)
		}
		if j := Justify(w.db, rules, i, w.twice(d, i)); (j == api.OK) != (len(d.Dummies) == 0) {
			t.Fatalf("%v by two equal sides: %d", d, j)
		}
	}
	for _, s := range w.signs {
		if _, ok := known[s.label]; !ok {
			if n, e := Of(w.db, rules, s.label); e != api.ErrNone || n != 0 {
				t.Fatalf("Of %s in %v: %d, %d", s.label, w.db, n, e)
			}
		}
	}
	if again, e := All(w.db, rules); e != api.OK || len(again) < len(l) || !slices.Equal(again[:len(l)], l) {
		t.Fatalf("All of %v with more: %v, %d, want %v", w.db, again, e, l)
	}
	return greatest
}

// twice adds an equality of the right side of a definition with itself, and returns its number.
func (w *world) twice(d Definition, i int) int {
	equal := w.trees[i].Label
	text := append([]string{"|-"}, w.text(api.Tree{Label: equal, Kids: []api.Tree{d.Right, d.Right}})...)
	w.assertion("t"+strconv.Itoa(len(w.db.Frames)), true, text, nil)
	f := &w.db.Frames[len(w.db.Frames)-1]
	f.Wide, f.Apart = nil, nil
	return len(w.db.Frames) - 1
}
