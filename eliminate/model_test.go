package eliminate

import (
	"math/rand"
	"slices"
	"strconv"
	"strings"
	"testing"

	"apodixis/api"
	"apodixis/compress"
	"apodixis/define"
	"apodixis/frame"
	"apodixis/graph"
	"apodixis/layout"
	"apodixis/stream"
	"apodixis/syntax"
	"apodixis/verify"
)

// axioms are what random theorems are proved from, beside definitions.
const axioms = `ax1 $a |- ( ph -> ( ps -> ph ) ) $. ${ min $e |- ph $. maj $e |- ( ph -> ps ) $. mp $a |- ps $. $} bi1 $a |- ( ( ph <-> ps ) -> ( ph -> ps ) ) $.
${ g $e |- ph $. gen $a |- A. x ph $. $} ${ $d u ph $. ax5 $a |- ( ph -> A. u ph ) $. $} two $a |- ( fst ph ( ps or ps ) -> dup ( ph and ch ) ) $. `

// The sorts of the Kids of labels, and the labels of the sorts. The variable u does not occur in random trees.
var (
	kidsOf   = map[string]string{"wn": "w", "wi": "ww", "wb": "ww", "wal": "wx", "weq": "xx", "tru": "", "wo": "ww", "wa": "ww", "weu": "wx", "wfst": "ww", "wdup": "w", "wno": ""}
	labelsOf = map[byte]string{'w': "wph wps wch wn wi wb wal weq tru wo wo wa wa weu wfst wfst wdup wno", 'x': "vx vy vz"}
)

// random returns a random tree of a sort.
func random(r *rand.Rand, sort byte, depth int) api.Tree {
	labels := strings.Fields(labelsOf[sort])
	label := labels[r.Intn(len(labels))]
	if depth == 0 {
		label = labels[r.Intn(3)]
	}
	t := api.Tree{Label: label}
	for _, k := range []byte(kidsOf[label]) {
		t.Kids = append(t.Kids, random(r, k, depth-1))
	}
	return t
}

// replaced returns a tree with others in the place of variables.
func replaced(t api.Tree, by map[string]api.Tree) api.Tree {
	if x, ok := by[t.Label]; ok {
		return x
	}
	result := api.Tree{Label: t.Label}
	for _, k := range t.Kids {
		result.Kids = append(result.Kids, replaced(k, by))
	}
	return result
}

// proved is a formula and its proof.
type proved struct {
	formula api.Tree
	proof   []string
}

// maker makes proofs of formulas in a database.
type maker struct {
	t     *testing.T
	r     *rand.Rand
	db    api.Database
	trees map[string]api.Tree // of formulas
}

// tree returns the tree of a formula.
func (m *maker) tree(text []string) api.Tree {
	key := strings.Join(text, " ")
	x, ok := m.trees[key]
	if !ok {
		var e api.Errno
		if x, e = syntax.Tree(m.db, text); e != api.OK {
			m.t.Fatalf("%q: %d", text, e)
		}
		m.trees[key] = x
	}
	return x
}

// apply returns an assertion with trees for its variables and proofs of its premises.
func (m *maker) apply(f api.Frame, by map[string]api.Tree, premises ...proved) proved {
	p := proved{formula: replaced(m.tree(f.Text), by)}
	for _, h := range f.Hyps {
		if !h.Floating {
			p.proof = append(p.proof, premises[0].proof...)
			premises = premises[1:]
			continue
		}
		p.proof = append(p.proof, labels(by[h.Label])...)
	}
	p.proof = append(p.proof, f.Label)
	return p
}

// labels returns the syntax proof of a tree.
func labels(t api.Tree) []string {
	var l []string
	for _, k := range t.Kids {
		l = append(l, labels(k)...)
	}
	return append(l, t.Label)
}

// make returns a formula with a proof, which perhaps uses premises.
func (m *maker) make(premises []proved, depth int) proved {
	if len(premises) > 0 && m.r.Intn(4) == 0 {
		return premises[m.r.Intn(len(premises))]
	}
	by := map[string]api.Tree{}
	for _, v := range []string{"wph", "wps", "wch"} {
		by[v] = random(m.r, 'w', m.r.Intn(3))
	}
	for _, v := range []string{"vx", "vy", "vz"} {
		by[v] = random(m.r, 'x', 0)
	}
	by["vu"] = api.Tree{Label: "vu"}
	var able []api.Frame
	for _, f := range m.db.Frames {
		if f.Text[0] == "|-" && (depth > 0 || !slices.ContainsFunc(f.Hyps, isEssential)) {
			able = append(able, f)
		}
	}
	f := able[m.r.Intn(len(able))]
	if !slices.ContainsFunc(f.Hyps, isEssential) {
		return m.apply(f, by)
	}
	a := m.make(premises, depth-1)
	if f.Label != "mp" {
		by["wph"] = a.formula // the premise of theorems is ph, too
		return m.apply(f, by, a)
	}
	if a.formula.Label == "wb" {
		left, right := a.formula.Kids[0], a.formula.Kids[1]
		b := m.apply(m.db.Frames[frame.Find(m.db, "bi1")], map[string]api.Tree{"wph": left, "wps": right})
		return m.apply(f, map[string]api.Tree{"wph": a.formula, "wps": b.formula.Kids[1]}, a, b)
	}
	b := m.apply(m.db.Frames[frame.Find(m.db, "ax1")], map[string]api.Tree{"wph": a.formula, "wps": by["wps"]})
	return m.apply(f, map[string]api.Tree{"wph": a.formula, "wps": b.formula.Kids[1]}, a, b)
}

// add adds a random theorem, if its proof is right; half of them have compressed proofs.
func (m *maker) add() {
	label := "th" + strconv.Itoa(len(m.db.Frames))
	var premises []proved
	var hyps []api.Hyp
	if m.r.Intn(3) == 0 {
		h := api.Hyp{Label: label + ".e", Text: []string{"|-", "ph"}}
		hyps = append(hyps, h)
		premises = append(premises, proved{api.Tree{Label: "wph"}, []string{h.Label}})
	}
	p := m.make(premises, 3)
	text, e := syntax.Text(m.db, p.formula)
	if e != api.OK || len(text) > 80 || len(p.proof) > 400 {
		return
	}
	text[0] = "|-"
	f := api.Frame{Label: label, Theorem: true, Text: text, Proof: p.proof}
	floats, _ := frame.Floats(m.db)
	isUsed := map[string]bool{"ph": len(hyps) > 0}
	for _, s := range text {
		isUsed[s] = true
	}
	for _, h := range floats {
		if isUsed[h.Text[1]] {
			f.Hyps = append(f.Hyps, h)
		} else {
			f.Dummies = append(f.Dummies, h)
		}
		if v := h.Text[1]; v != "u" && (v == "x" || len(v) == 2 || m.r.Intn(2) == 0) {
			f.Wide = append(f.Wide, api.Pair{A: min(v, "u"), B: max(v, "u")})
		}
	}
	slices.SortFunc(f.Wide, func(a, b api.Pair) int { return strings.Compare(a.A+" "+a.B, b.A+" "+b.B) })
	for _, p := range f.Wide {
		if isUsed[p.A] && isUsed[p.B] {
			f.Apart = append(f.Apart, p)
		}
	}
	f.Hyps = append(f.Hyps, hyps...)
	m.db.Frames = append(m.db.Frames, f)
	last := len(m.db.Frames) - 1
	v, e := verify.Theorem(m.db, last)
	if e != api.OK {
		m.t.Fatalf("%v: %d", f, e)
	}
	if v.Code != api.OK {
		m.db.Frames = m.db.Frames[:last]
		return
	}
	if m.r.Intn(2) == 0 {
		g, _ := graph.Of(m.db, last)
		g, _ = graph.Share(g)
		m.db.Frames[last].Proof, _ = compress.Proof(m.db, last, g)
	}
}

// newMaker returns a database with random definitions, and random theorems behind them.
func newMaker(t *testing.T, r *rand.Rand) *maker {
	s := axioms
	l := []string{dfor, dfand, dffst, dfdup, dfno, dfeu}
	r.Shuffle(len(l), func(i, j int) { l[i], l[j] = l[j], l[i] })
	isOrFirst := slices.Index(l, dfor) < slices.Index(l, dfand) || r.Intn(2) == 0
	s = strings.Replace(s, "two $a |- ( fst ph ( ps or ps ) -> dup ( ph and ch ) ) $.", "", 1)
	if !isOrFirst { // the or is used ahead of its definition, which is none then
		s += dfand
	}
	for _, d := range l {
		if isOrFirst || d != dfand {
			s += d
		}
	}
	s += "two $a |- ( fst ph ( ps or ps ) -> dup ( ph and ch ) ) $."
	m := &maker{t: t, r: r, db: database(t, logic+s), trees: map[string]api.Tree{}}
	for range 8 {
		m.add()
	}
	return m
}

// model eliminates a definition as the document says it.
type model struct {
	*maker
	d         define.Definition
	number    int
	kept      map[string][]bool // of the hypotheses of assertions
	reflexive string
}

func (m *model) without(t api.Tree) api.Tree {
	result := api.Tree{Label: t.Label}
	by := map[string]api.Tree{}
	for n, k := range t.Kids {
		result.Kids = append(result.Kids, m.without(k))
		if t.Label == m.d.Label {
			by[m.d.Args[n]] = result.Kids[n]
		}
	}
	if t.Label == m.d.Label {
		return replaced(m.d.Right, by)
	}
	return result
}

func (m *model) text(formula []string) []string {
	text, e := syntax.Text(m.db, m.without(m.tree(formula)))
	if e != api.OK {
		m.t.Fatalf("%q: %d", formula, e)
	}
	return append([]string{formula[0]}, text[1:]...)
}

// frame returns an assertion without the definition, and without its proof.
func (m *model) frame(f api.Frame) api.Frame {
	result := api.Frame{Label: f.Label, Theorem: f.Theorem, Text: m.text(f.Text), Wide: f.Wide}
	symbols := slices.Clone(result.Text)
	for _, h := range f.Hyps {
		if !h.Floating {
			symbols = append(symbols, m.text(h.Text)...)
		}
	}
	var kept []bool
	for _, h := range f.Hyps {
		if !h.Floating {
			h.Text = m.text(h.Text)
		}
		isKept := !h.Floating || slices.Contains(symbols, h.Text[1])
		if isKept {
			result.Hyps = append(result.Hyps, h)
		}
		kept = append(kept, isKept)
	}
	m.kept[f.Label] = kept
	floats, _ := frame.Floats(m.db)
	for _, h := range floats {
		if !slices.Contains(symbols, h.Text[1]) {
			result.Dummies = append(result.Dummies, h)
		}
	}
	for _, p := range f.Apart {
		if slices.Contains(symbols, p.A) && slices.Contains(symbols, p.B) {
			result.Apart = append(result.Apart, p)
		}
	}
	return result
}

// words returns the normal proof of a step without the definition.
func (m *model) words(p api.Proof, s int) []string {
	x := p.Steps[s]
	var args [][]string
	for _, a := range x.Args {
		args = append(args, m.words(p, a))
	}
	given := map[string][]string{}
	switch x.Label {
	case m.d.Label:
		for n, v := range m.d.Args {
			given[v] = args[n]
		}
		return rightWords(m.d.Right, given)
	case m.db.Frames[m.number].Label:
		for n, h := range m.db.Frames[m.number].Hyps {
			given[h.Label] = args[n]
		}
		return append(rightWords(m.d.Right, given), m.reflexive)
	}
	var l []string
	for n, a := range args {
		if m.kept[x.Label][n] {
			l = append(l, a...)
		}
	}
	return append(l, x.Label)
}

func rightWords(t api.Tree, given map[string][]string) []string {
	if l, ok := given[t.Label]; ok {
		return l
	}
	var l []string
	for _, k := range t.Kids {
		l = append(l, rightWords(k, given)...)
	}
	return append(l, t.Label)
}

// database returns what Database has to return.
func (m *model) database() api.Database {
	result := api.Database{Constants: m.db.Constants, Variables: m.db.Variables}
	for k, f := range m.db.Frames {
		if k == m.number || f.Label == m.d.Label {
			continue
		}
		g := m.frame(f)
		if f.Theorem {
			p, e := graph.Of(m.db, k)
			if e != api.OK {
				m.t.Fatal(e)
			}
			g.Proof = m.words(p, len(p.Steps)-1)
		}
		result.Frames = append(result.Frames, g)
	}
	return result
}

// P20.1 to P20.3, and P6: random databases without one definition.
func TestRandomDatabases(t *testing.T) {
	t.Parallel()
	r := rand.New(rand.NewSource(20))
	theorems, large := 0, 0
	for range 14 {
		x := newMaker(t, r)
		l, e := define.All(x.db, rules)
		if e != api.OK {
			t.Fatal(e)
		}
		for _, i := range l {
			d, e := define.Parts(x.db, rules, i)
			if len(d.Dummies) > 0 || e != api.OK {
				if _, e := Database(x.db, rules, i); e != ErrDummy {
					t.Fatalf("a definition with dummies: %d", e)
				}
				continue
			}
			m := &model{x, d, i, map[string][]bool{}, "biid"}
			want := m.database()
			got, e := Database(x.db, rules, i)
			if slices.ContainsFunc(want.Frames, func(f api.Frame) bool { return len(f.Proof) > api.MaxSteps }) {
				large++
				if e != api.ErrLarge {
					t.Fatalf("a long proof: %d", e)
				}
				continue
			}
			if e != api.OK || !frame.Equal(got, want) {
				t.Fatalf("%s: %d\n%v\nwant\n%v", x.db.Frames[i].Label, e, got, want)
			}
			theorems += m.checkProofs(got)
		}
	}
	if theorems < 180 || large > 20 {
		t.Errorf("%d theorems, %d of them with long proofs", theorems, large)
	}
}

// checkProofs checks the theorems of a database without the definition, and returns how many there are.
func (m *model) checkProofs(db api.Database) int {
	m.t.Helper()
	checkVerdicts(m.t, db)
	count := 0
	for k, f := range m.db.Frames {
		at := frame.Find(db, f.Label)
		if at < 0 {
			continue
		}
		g := db.Frames[at]
		symbol := m.db.Frames[frame.Find(m.db, m.d.Label)].Text
		isGone := func(s string) bool {
			return s != "(" && s != ")" && !slices.Contains(g.Text, s) && slices.Contains(f.Text, s)
		}
		if !slices.ContainsFunc(symbol[1:], isGone) && !slices.Equal(m.text(f.Text), g.Text) || !slices.Equal(m.text(g.Text), g.Text) {
			m.t.Fatalf("%v became %v", f, g)
		}
		if !f.Theorem {
			continue
		}
		count++
		p, e := Proof(m.db, rules, m.number, k)
		own, _ := graph.Of(db, at)
		own, _ = graph.Share(own)
		if e != api.OK || !slices.EqualFunc(p.Steps, own.Steps, func(a, b api.Step) bool { return a.Label == b.Label && slices.Equal(a.Args, b.Args) }) {
			m.t.Fatalf("the proof of %v is %v, %d, want %v", f, p, e, own)
		}
	}
	return count
}

// checkVerdicts checks that both verifiers accept a database.
func checkVerdicts(t *testing.T, db api.Database) {
	t.Helper()
	if e := frame.Check(db); e != api.OK || !frame.Settled(db) {
		t.Fatalf("%v: %d", db, e)
	}
	v, e := verify.All(db)
	if e != api.OK || slices.ContainsFunc(v, func(v api.Verdict) bool { return v != api.Verdict{} }) {
		t.Fatalf("%v: %v, %d", db, v, e)
	}
	l, e := frame.Statements(db)
	if e != api.OK {
		t.Fatalf("%v: %d", db, e)
	}
	text, e := layout.Print(l, 80)
	if e == api.ErrLarge || e == api.ErrSize {
		return
	}
	named, f := stream.Verify(text)
	if e != api.OK || f != api.OK && f != api.ErrLarge && f != api.ErrSize {
		t.Fatalf("%v: %d, %d", db, e, f)
	}
	for _, n := range named {
		if n.Verdict.Code != api.OK {
			t.Fatalf("%v: the second verifier: %v", db, n)
		}
	}
}

// P20.1, P20.3 and P6: without all definitions.
func TestRandomWhole(t *testing.T) {
	t.Parallel()
	r := rand.New(rand.NewSource(21))
	for range 9 {
		m := newMaker(t, r)
		want, wrong := m.db, api.OK
		var gone []string
		for wrong == api.OK {
			l, _ := define.All(want, rules)
			l = slices.DeleteFunc(l, func(i int) bool { return want.Frames[i].Label == "df-eu" })
			if len(l) == 0 {
				break
			}
			d, _ := define.Parts(want, rules, l[len(l)-1])
			gone = append(gone, d.Label)
			want, wrong = Database(want, rules, l[len(l)-1])
		}
		got, e := Whole(m.db, rules)
		if e != wrong || !frame.Equal(got, want) {
			t.Fatalf("%v, %d\nwant\n%v, %d", got, e, want, wrong)
		}
		if e != api.OK {
			continue
		}
		checkVerdicts(t, got)
		if len(gone) < 4 {
			t.Fatalf("%v", gone)
		}
		for _, f := range m.db.Frames {
			at := frame.Find(got, f.Label)
			if at < 0 {
				continue
			}
			_, later := define.Of(m.db, rules, "wo") // without df-and, which uses it ahead, df-or is a definition
			text, e := Text(m.db, rules, f.Text)
			if e != api.OK || later == api.OK && !slices.Equal(text, got.Frames[at].Text) {
				t.Fatalf("the text of %v: %q, %d, but %v", f, text, e, got.Frames[at])
			}
			isPlain := !slices.ContainsFunc(slices.Concat(f.Text, f.Proof), func(s string) bool {
				return slices.Contains(strings.Fields("no dup fst or and wno wdup wfst wo wa"), s) || strings.HasPrefix(s, "th") || strings.HasPrefix(s, "df-") || s == "two"
			})
			if f.Proof != nil && f.Proof[0] != "(" && isPlain && !frame.Equal(api.Database{Frames: []api.Frame{f}}, api.Database{Frames: got.Frames[at : at+1]}) {
				t.Fatalf("%v became %v", f, got.Frames[at])
			}
		}
	}
}

// P20.3 and P20.4: trees without definitions.
func TestRandomTrees(t *testing.T) {
	t.Parallel()
	r := rand.New(rand.NewSource(22))
	db := with(t, dfor+dfand+dffst+dfdup+dfno+dfeu)
	m := &maker{t: t, r: r, db: db, trees: map[string]api.Tree{}}
	plain := []string{"df-or", "df-and", "df-fst", "df-dup", "df-no"}
	removed := func(label string, x api.Tree) api.Tree {
		i := frame.Find(db, label)
		d, _ := define.Parts(db, rules, i)
		want := (&model{m, d, i, nil, ""}).without(x)
		got, e := Tree(db, rules, i, x, nil)
		if nodes, depth := syntax.Size(want); nodes <= api.MaxNodes && depth <= api.MaxDepth && (e != api.OK || !syntax.Equal(got, want)) {
			t.Fatalf("%s in %v: %v, %d, want %v", label, x, got, e, want)
		}
		if again, e := Tree(db, rules, i, got, nil); e != api.OK || !syntax.Equal(again, got) || slices.Contains(labels(got), d.Label) {
			t.Fatalf("%s in %v: twice %v, %d", label, x, again, e)
		}
		if !slices.Contains(labels(x), d.Label) && !syntax.Equal(got, x) {
			t.Fatalf("%s in %v: %v", label, x, got)
		}
		return got
	}
	for range 100 {
		x := random(r, 'w', 4)
		a, b := plain[r.Intn(5)], plain[r.Intn(5)]
		if one, two := removed(a, removed(b, x)), removed(b, removed(a, x)); !(a == "df-or" && b == "df-and") && !(a == "df-and" && b == "df-or") && !syntax.Equal(one, two) {
			t.Fatalf("%s and %s in %v: %v and %v", a, b, x, one, two)
		}
		by := map[string]api.Tree{"wph": random(r, 'w', 2), "wps": random(r, 'w', 2), "vx": random(r, 'x', 2)}
		with := map[string]api.Tree{}
		for v, y := range by {
			with[v] = removed(a, y)
		}
		if one, two := removed(a, replaced(x, by)), replaced(removed(a, x), with); !syntax.Equal(one, two) {
			t.Fatalf("%s in %v with %v: %v and %v", a, x, by, one, two)
		}
	}
}

// P20.3: databases without two definitions, in both orders.
func TestOrder(t *testing.T) {
	t.Parallel()
	r := rand.New(rand.NewSource(23))
	without := func(db api.Database, l ...string) (api.Database, bool) {
		for _, label := range l {
			var e api.Errno
			if db, e = Database(db, rules, frame.Find(db, label)); e != api.OK {
				return db, false
			}
		}
		return db, true
	}
	count := 0
	for range 30 {
		m := newMaker(t, r)
		l := []string{"df-fst", "df-dup", "df-no"}
		r.Shuffle(3, func(i, j int) { l[i], l[j] = l[j], l[i] })
		one, ok := without(m.db, l[0], l[1])
		two, too := without(m.db, l[1], l[0])
		if ok && too {
			count++
			if !frame.Equal(one, two) {
				t.Fatalf("%v: %v, but %v", l, one, two)
			}
		}
	}
	if count < 20 {
		t.Errorf("%d of 30", count)
	}
}
