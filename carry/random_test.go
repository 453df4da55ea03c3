package carry

import (
	"math/rand"
	"slices"
	"strconv"
	"strings"
	"testing"

	"apodixis/api"
	"apodixis/frame"
	"apodixis/natural"
	"apodixis/syntax"
	"apodixis/verify"
)

// random makes random choices.
type random struct{ *rand.Rand }

func newRandom(seed int) random { return random{rand.New(rand.NewSource(int64(seed)))} }

// pick returns one of several words.
func (r random) pick(words string) string {
	l := strings.Fields(words)
	return l[r.Intn(len(l))]
}

func itoa(n int) string { return strconv.Itoa(n) }

// kidsOf are the sorts of the Kids of syntax axioms.
var kidsOf = map[string]string{"wi": "ww", "wn": "w", "wa": "ww", "wo": "ww", "wal": "wx", "wex": "wx", "weq": "xx", "wel": "xx", "wcl": "C"}

// tree returns a random tree of a sort.
func (r random) tree(sort byte, depth int) api.Tree {
	label := r.pick(map[byte]string{'w': "wp wq wr wf wt", 'x': "vx vy vz", 'C': "cC"}[sort])
	if sort == 'w' && depth > 0 {
		label = r.pick("wi wi wn wa wo wal wal wex weq wel wp wq")
		if r.Intn(60) == 0 {
			label = "wcl"
		}
	}
	t := api.Tree{Label: label}
	for _, k := range []byte(kidsOf[label]) {
		t.Kids = append(t.Kids, r.tree(k, depth-1))
	}
	return t
}

// labels returns the syntax proof of a tree.
func labels(t api.Tree) []string {
	var l []string
	for _, k := range t.Kids {
		l = append(l, labels(k)...)
	}
	return append(l, t.Label)
}

// filled returns a tree with others for its leaves.
func filled(t api.Tree, by map[string]api.Tree) api.Tree {
	if x, ok := by[t.Label]; ok {
		return x
	}
	result := api.Tree{Label: t.Label}
	for _, k := range t.Kids {
		result.Kids = append(result.Kids, filled(k, by))
	}
	return result
}

// proved is a formula with a normal proof.
type proved struct {
	tree  api.Tree
	words []string
}

// writer writes theorems with random proofs.
type writer struct {
	random
	db       api.Database
	trees    map[string]api.Tree // of assertions, by their labels
	premises []string            // the premises that may be used, each of a variable
}

// prove returns a formula with a proof.
func (w *writer) prove(depth int) proved {
	if len(w.premises) > 0 && w.Intn(3) == 0 {
		h := w.pick(strings.Join(w.premises, " "))
		return proved{api.Tree{Label: "w" + h[:1]}, []string{h}}
	}
	if depth > 0 && w.Intn(3) == 0 { // a cut: what is proved first is dropped
		a, c := w.prove(depth-1), w.tree('w', 1)
		return w.mp(a, w.step("drop", map[string]api.Tree{"wp": a.tree, "wq": c}, nil))
	}
	var names []string
	for _, f := range w.db.Frames {
		if f.Text[0] == "|-" && (depth > 0 || !hasEssential(f)) {
			names = append(names, f.Label)
		}
	}
	label := names[w.Intn(len(names))]
	if depth > 0 && w.Intn(2) == 0 {
		label = w.pick("mp gen all same " + strings.Join(names[max(0, len(names)-4):], " ")) // the last ones are theorems
	}
	by := map[string]api.Tree{"cC": {Label: "cC"}}
	for _, v := range strings.Fields("wp wq wr") {
		by[v] = w.tree('w', w.Intn(3))
	}
	for _, v := range strings.Fields("vx vy vz") {
		by[v] = w.tree('x', 0)
	}
	if label == "mp" {
		a := w.prove(depth - 1)
		return w.mp(a, w.step("a1", map[string]api.Tree{"wp": a.tree, "wq": by["wq"]}, nil))
	}
	var given []proved
	for _, text := range essentials(w.db.Frames[frame.Find(w.db, label)]) {
		a := w.prove(depth - 1)
		by["w"+text[1]] = a.tree
		given = append(given, a)
	}
	for i, text := range essentials(w.db.Frames[frame.Find(w.db, label)]) { // two premises of one variable are one
		if !syntax.Equal(by["w"+text[1]], given[i].tree) {
			given[i] = given[len(given)-1]
		}
	}
	return w.step(label, by, given)
}

// mp returns a step of modus ponens.
func (w *writer) mp(a, i proved) proved {
	return w.step("mp", map[string]api.Tree{"wp": a.tree, "wq": i.tree.Kids[1]}, []proved{a, i})
}

// step returns a step of an assertion.
func (w *writer) step(label string, by map[string]api.Tree, given []proved) proved {
	f := w.db.Frames[frame.Find(w.db, label)]
	var words []string
	for _, h := range f.Hyps {
		if h.Floating {
			words = append(words, labels(by[h.Label])...)
		} else {
			words, given = append(words, given[0].words...), given[1:]
		}
	}
	return proved{filled(w.trees[label], by), append(words, label)}
}

// theorem adds a random theorem; false, if its proof is not right.
func (w *writer) theorem(t *testing.T, label string) bool {
	t.Helper()
	w.premises = nil
	source := "${ "
	for range w.Intn(4) {
		source += "$d " + w.pick("p q r") + " " + w.pick("x y z") + " $. "
	}
	for _, v := range strings.Fields("p q") {
		if w.Intn(3) == 0 {
			w.premises = append(w.premises, v+label)
			source += v + label + " $e |- " + v + " $. "
		}
	}
	p := w.prove(1 + w.Intn(5))
	formula, e := syntax.Text(w.db, p.tree)
	if e != api.OK || len(formula) > 150 || len(p.words) > api.MaxSteps {
		return false
	}
	source += label + " $p |- " + strings.Join(formula[1:], " ") + " $= " + strings.Join(p.words, " ") + " $. $}"
	text := whole + further + "drop $a |- ( p -> ( q -> q ) ) $. " + source
	if len(w.db.Frames) > 0 {
		text = w.source() + source
	}
	if len(strings.Fields(text)) > api.MaxTokens {
		return false
	}
	db := database(t, text)
	if v, e := verify.Theorem(db, len(db.Frames)-1); e != api.OK || v.Code != api.OK {
		return false
	}
	w.db, w.trees[label] = db, p.tree
	return true
}

// source returns the text of the database.
func (w *writer) source() string {
	l, _ := frame.Statements(w.db)
	var s strings.Builder
	for _, x := range l {
		sign := map[int]string{api.Constants: "$c", api.Variables: "$v", api.Floating: "$f", api.Essential: "$e", api.Disjoint: "$d", api.Axiom: "$a", api.Theorem: "$p", api.Open: "${", api.Close: "$}"}[x.Kind]
		s.WriteString(x.Label + " " + sign + " " + strings.Join(x.Text, " "))
		if x.Kind == api.Theorem {
			s.WriteString(" $= " + strings.Join(x.Proof, " "))
		}
		if x.Kind != api.Open && x.Kind != api.Close {
			s.WriteString(" $.")
		}
		s.WriteString(" ")
	}
	return s.String()
}

// written returns a database with random theorems behind further.
func (r random) database(t *testing.T, count int) api.Database {
	t.Helper()
	w := &writer{random: r, trees: map[string]api.Tree{}}
	w.db = database(t, whole+further+"drop $a |- ( p -> ( q -> q ) ) $. ")
	for _, f := range w.db.Frames {
		if f.Text[0] == "|-" {
			w.trees[f.Label], _ = syntax.Tree(w.db, f.Text)
		}
	}
	for n := range count {
		for !w.theorem(t, "t"+itoa(n)) {
		}
	}
	return w.db
}

// P26.1, P26.2: random proofs are carried over as the model does it, and the kernel accepts them.
func TestRandomProofs(t *testing.T) {
	counts := map[api.Errno]int{}
	theories, largest, named := 0, 0, 0
	for seed := range 40 {
		r := newRandom(seed)
		db := r.database(t, 10)
		l := full()
		for range r.Intn(2) * r.Intn(3) {
			*fieldOf(&l, r.pick("And Or False Simp Transp Dist Vacuous Spec Refl Eucl Some Gen")) = ""
		}
		for i := range db.Frames {
			want, wrong := proofModel(db, l, i)
			c, e := Proof(db, l, i)
			if e != wrong || e == api.OK && !sameCarried(c, want) {
				t.Fatalf("%d: %s: %v, %d, want %v, %d", seed, db.Frames[i].Label, c, e, want, wrong)
			}
			counts[e]++
			if e != api.OK {
				continue
			}
			accepted(t, c)
			nodes, _ := natural.Size(c.Derivation)
			largest = max(largest, nodes)
			if len(c.Theory) > 0 {
				theories++
			}
			if strings.Contains(instances(c.Derivation), dummy) {
				named++
			}
		}
	}
	if counts[api.OK] < 200 || counts[ErrSyntax] < 5 || counts[ErrRule] < 5 || theories < 50 || largest < 30 || named < 5 {
		t.Errorf("%v, %d with a theory, %d nodes, %d with dummies", counts, theories, largest, named)
	}
}

// P26.1, P26.3, P26.4: random formulas and instances of axioms, as the model has them.
func TestRandomFormulas(t *testing.T) {
	r := newRandom(26)
	db := database(t, whole+"${ $d p x $. $d p z $. $d q y $. $d r x y z $. apart $a |- ( p -> ( q -> r ) ) $. $} ${ $d x y $. $d q x y $. th $p |- ( q -> q ) $= ? $. $}")
	l := full()
	counts := map[api.Errno]int{}
	for range 500 {
		i := r.Intn(len(db.Frames))
		formula, _ := syntax.Text(db, r.tree('w', r.Intn(5)))
		m := own(db, l, db.Frames[i])
		want, wrong := modelFormula(db, l, formula, m)
		f, e := Formula(db, l, i, formula)
		if e != wrong || !natural.Same(f, want) {
			t.Fatalf("%q: %v, %d, want %v, %d", formula, f, e, want, wrong)
		}
		if e == api.OK {
			want, _, wrong := modelClosed(db, f)
			g, e := Closed(db, l, f)
			h, again := Closed(db, l, g)
			if e != wrong || !natural.Same(g, want) || e == api.OK && (again != api.OK || !natural.Same(g, h)) {
				t.Fatalf("%q: closed %v, %d, want %v, %d", formula, g, e, want, wrong)
			}
		}
		field := ruleFields[2+r.Intn(8)]
		label := *fieldOf(&l, field)
		var list []api.Bind
		isRight := true
		for _, h := range db.Frames[frame.Find(db, label)].Hyps {
			text, _ := syntax.Text(db, r.tree(map[string]byte{"wff": 'w', "set": 'x'}[h.Text[0]], r.Intn(3)))
			isRight = isRight && !slices.Contains(text, "no")
			list = append(list, api.Bind{Var: h.Text[1], Text: text[1:]})
		}
		r.Shuffle(len(list), func(a, b int) { list[a], list[b] = list[b], list[a] })
		d, e := Axiom(db, l, i, label, list)
		counts[e]++
		if !isRight {
			if e != ErrSyntax {
				t.Fatalf("%s, %v: %d", label, list, e)
			}
			continue
		}
		model := axiomModel(t, db, l, field, i, list)
		if e != api.OK && e != api.ErrApart || (e == api.OK) != (model.Rule > 0) || !sameDerivation(d, model) {
			t.Fatalf("%s, %v: %v, %d, want %v", label, list, d, e, model)
		}
		if g, path, f := natural.Check(nil, nil, d); e == api.OK && (f != api.OK || isZero(g)) {
			t.Fatalf("%s, %v: %d at %v", label, list, f, path)
		}
	}
	if counts[api.OK] < 100 || counts[api.ErrApart] < 3 || counts[ErrSyntax] < 3 {
		t.Errorf("%v", counts)
	}
}

// R4: arguments do not change, and results are new memory.
func TestMemory(t *testing.T) {
	const s = "${ e $e |- ( p -> x = y ) $. th $p |- A. x ( q -> ( p -> x = y ) ) $= wp vx vy weq wi wq vx e all $. $} th2 $p |- ( y = x -> E. z y e. z ) $= vy vx vz own $."
	db, fresh := database(t, whole+further+s), database(t, whole+further+s)
	l := full()
	list := binds("p=A. x p,q=q")
	f := parsed(t, "$> P $( x $) Q $( f $( y $) $)")
	spoil := func(f *natural.Formula) {
		var term func(x *natural.Term)
		term = func(x *natural.Term) {
			x.Name += "no"
			for i := range x.Args {
				term(&x.Args[i])
			}
		}
		var walk func(f *natural.Formula)
		walk = func(f *natural.Formula) {
			f.Kind, f.Name = f.Kind+1, f.Name+"no"
			for i := range f.Terms {
				term(&f.Terms[i])
			}
			for i := range f.Parts {
				walk(&f.Parts[i])
			}
		}
		walk(f)
	}
	var ruin func(d *natural.Derivation)
	ruin = func(d *natural.Derivation) {
		spoil(&d.Formula)
		d.Rule, d.Name, d.Term.Name = d.Rule+1, "no", "no"
		for i := range d.Kids {
			ruin(&d.Kids[i])
		}
	}
	for range 2 {
		g, _ := Formula(db, l, 0, db.Frames[len(db.Frames)-2].Text)
		spoil(&g)
		h, _ := Closed(db, l, f)
		spoil(&h)
		d, e := Axiom(db, l, 0, "a1", list)
		ruin(&d)
		if e != api.OK {
			t.Fatal(e)
		}
		for _, label := range []string{"th", "th2"} {
			i := frame.Find(db, label)
			c, e := Proof(db, l, i)
			want, _ := proofModel(db, l, i)
			if e != api.OK || !sameCarried(c, want) {
				t.Fatalf("%v, %d", c, e)
			}
			spoil(&c.Conclusion)
			ruin(&c.Derivation)
			for n := range c.Theory {
				if !natural.Same(c.Theory[n], want.Theory[n]) {
					t.Errorf("%s: the theory shares memory", label)
				}
				spoil(&c.Theory[n])
				c.Labels[n] = "no"
			}
			for n := range c.Assumptions {
				if !natural.Same(c.Assumptions[n], want.Assumptions[n]) {
					t.Errorf("%s: the assumptions share memory", label)
				}
				spoil(&c.Assumptions[n])
			}
		}
	}
	if !frame.Equal(db, fresh) || text(t, f) != "$> P $( x $) Q $( f $( y $) $)" || list[0].Text[0] != "A." {
		t.Error("arguments changed")
	}
}
