package infer

import (
	"math/rand"
	"slices"
	"strconv"
	"strings"
	"testing"

	"apodixis/api"
	"apodixis/compress"
	"apodixis/frame"
	"apodixis/graph"
	"apodixis/layout"
	"apodixis/stream"
	"apodixis/syntax"
	"apodixis/unify"
	"apodixis/verify"
)

// The sorts of the Kids of labels, and the labels of the sorts.
var (
	kidsOf   = map[string]string{"wn": "w", "wi": "ww", "wal": "wx", "weq": "xx"}
	labelsOf = map[byte]string{'w': "wph wps wch tru wn wn wi wi wi wal weq", 'x': "vx vy vz"}
)

// random returns a random tree of a sort.
func random(r *rand.Rand, sort byte, depth int) api.Tree {
	labels := strings.Fields(labelsOf[sort])
	label := labels[r.Intn(len(labels))]
	if depth == 0 {
		label = labels[r.Intn(3)]
	}
	t := api.Tree{Label: label}
	for _, k := range []byte(kidsOf[label]) {
		t.Kids = append(t.Kids, random(r, k, depth-1))
	}
	return t
}

// replaced returns a tree with others in the place of leaves.
func replaced(t api.Tree, by map[string]api.Tree) api.Tree {
	if x, ok := by[t.Label]; ok {
		return x
	}
	result := api.Tree{Label: t.Label}
	for _, k := range t.Kids {
		result.Kids = append(result.Kids, replaced(k, by))
	}
	return result
}

// labels returns the syntax proof of a tree.
func labels(t api.Tree) []string {
	var l []string
	for _, k := range t.Kids {
		l = append(l, labels(k)...)
	}
	return append(l, t.Label)
}

// formula returns the formula of a tree, with the turnstile.
func formula(t *testing.T, db api.Database, x api.Tree) []string {
	t.Helper()
	text, e := syntax.Text(db, x)
	if e != api.OK {
		t.Fatalf("%v: %d", x, e)
	}
	return append([]string{"|-"}, text[1:]...)
}

// proved is a formula and its normal proof.
type proved struct {
	tree  api.Tree
	words []string
}

// prove returns a random formula with a proof from assertions of a database, and from a premise ph.
func prove(t *testing.T, r *rand.Rand, db api.Database, premise string, depth int) proved {
	if depth == 0 && r.Intn(2) == 0 {
		return proved{api.Tree{Label: "wph"}, []string{premise}}
	}
	by := map[string]api.Tree{}
	for _, v := range []string{"wph", "wps", "wch"} {
		by[v] = random(r, 'w', r.Intn(3))
	}
	for _, v := range []string{"vx", "vy", "vz"} {
		by[v] = random(r, 'x', 0)
	}
	var given []proved
	label := strings.Fields("ax1 ax2 ax3 ax5 any tt gen keep mp")[r.Intn(9)]
	if depth == 0 {
		label = []string{"ax1", "ax2", "tt"}[r.Intn(3)]
	}
	switch label {
	case "gen", "keep", "mp":
		a := prove(t, r, db, premise, depth-1)
		by["wph"] = a.tree
		given = append(given, a)
	}
	switch label {
	case "keep":
		given = append(given, prove(t, r, db, premise, depth-1))
		by["wps"] = given[1].tree
	case "mp": // the second premise is an instance of the first axiom
		x := api.Tree{Label: "wi", Kids: []api.Tree{by["wch"], by["wph"]}}
		words := append(append(labels(by["wph"]), labels(by["wch"])...), "ax1")
		given = append(given, proved{api.Tree{Label: "wi", Kids: []api.Tree{by["wph"], x}}, words})
		by["wps"] = x
	}
	f := db.Frames[frame.Find(db, label)]
	x, e := syntax.Tree(db, f.Text)
	if e != api.OK {
		t.Fatal(e)
	}
	p := proved{tree: replaced(x, by)}
	for _, h := range f.Hyps {
		if h.Floating {
			p.words = append(p.words, labels(by[h.Label])...)
		} else {
			p.words = append(p.words, given[0].words...)
			given = given[1:]
		}
	}
	p.words = append(p.words, label)
	return p
}

// theorem returns logic with a random theorem th, and its number; false, if it is too large.
func theorem(t *testing.T, r *rand.Rand) (api.Database, int, bool) {
	t.Helper()
	db, _ := with(t, "")
	p := prove(t, r, db, "e", 4)
	pairs := []string{"$d x ph ps ch $. $d y z $.", "$d x y ph $.", "$d x y z ph ps ch $.", ""}[r.Intn(4)]
	text := formula(t, db, p.tree)
	if len(text) > 100 || len(p.words) > 800 {
		return api.Database{}, 0, false
	}
	db, i := with(t, "${ "+pairs+" e $e |- ph $. th $p "+strings.Join(text, " ")+" $= "+strings.Join(p.words, " ")+" $. $}")
	return db, i, true
}

// P21.1 to P21.3, and P2: random proofs are stripped and completed.
func TestRandomProofs(t *testing.T) {
	r := rand.New(rand.NewSource(21))
	counts := map[bool]int{}
	for range 250 {
		db, i, ok := theorem(t, r)
		if !ok {
			continue
		}
		v, e := verify.Theorem(db, i)
		if e != api.OK {
			t.Fatal(e)
		}
		isRight, e := Verify(db, i)
		if e != api.OK || isRight != (v.Code == api.OK) {
			t.Fatalf("%v: %t, %d, but the verdict %v", db.Frames[i], isRight, e, v)
		}
		counts[isRight]++
		if !isRight {
			continue
		}
		p, _ := graph.Of(db, i)
		l, e := Strip(db, i, p)
		if want := stripModel(db, i, p); e != api.OK || !sameLines(l, want) {
			t.Fatalf("%v: %v, %d, want %v", db.Frames[i], l, e, want)
		}
		shared, _ := graph.Share(p)
		q, e := Complete(db, i, l)
		if e != api.OK || !sameProof(q, shared) {
			t.Fatalf("%v: %v, %d, want %v", db.Frames[i], q, e, shared)
		}
		db.Frames[i].Proof, e = compress.Proof(db, i, q)
		if ok, f := Verify(db, i); e != api.OK || f != api.OK || !ok {
			t.Fatalf("%v: %d, %t, %d", db.Frames[i], e, ok, f)
		}
		checkStream(t, db, i)
	}
	if counts[true] < 60 || counts[false] < 20 {
		t.Errorf("%v", counts)
	}
}

// checkStream checks that the second verifier accepts a theorem.
func checkStream(t *testing.T, db api.Database, i int) {
	t.Helper()
	l, e := frame.Statements(db)
	text, f := layout.Print(l, 80)
	if e != api.OK || f != api.OK {
		t.Fatalf("%v: %d, %d", db.Frames[i], e, f)
	}
	named, e := stream.Verify(text)
	if e != api.OK || len(named) != 1 || named[0].Label != db.Frames[i].Label || named[0].Verdict != (api.Verdict{}) {
		t.Fatalf("%v: the second verifier: %v, %d", db.Frames[i], named, e)
	}
}

// stripModel returns the lines of a right proof, as the document says them.
func stripModel(db api.Database, i int, p api.Proof) []Line {
	p, _ = graph.Share(p)
	texts, _, _ := graph.Texts(db, i, p)
	numbers := map[int]int{}
	var l []Line
	for s, x := range p.Steps {
		if texts[s][0] != "|-" {
			continue
		}
		numbers[s] = len(l)
		line := Line{Label: x.Label, Text: texts[s]}
		for _, a := range x.Args {
			if texts[a][0] == "|-" {
				line.Args = append(line.Args, numbers[a])
			}
		}
		l = append(l, line)
	}
	return l
}

// randomLines returns lines that are about right, with some of their formulas.
func randomLines(r *rand.Rand, db api.Database) []Line {
	var l []Line
	for n := range 1 + r.Intn(6) {
		x := Line{Label: strings.Fields("ax1 ax2 ax3 ax5 any tt e gen keep mp mp nn")[r.Intn(12)]}
		count := map[string]int{"gen": 1, "nn": 1, "keep": 2, "mp": 2}[x.Label]
		if n == 0 && count > 0 {
			x.Label, count = "any", 0
		}
		for range count {
			x.Args = append(x.Args, r.Intn(n))
		}
		if r.Intn(3) == 0 {
			text, _ := syntax.Text(db, random(r, 'w', 1+r.Intn(2)))
			x.Text = append([]string{"|-"}, text[1:]...)
		}
		l = append(l, x)
	}
	return l
}

// equations returns the trees of lines with work variables, and what has to be equal, as the document says it.
func equations(t *testing.T, db api.Database, i int, l []Line) (goals, a, b []api.Tree, works []unify.Sub) {
	t.Helper()
	read := func(text []string) api.Tree {
		x, e := syntax.Tree(db, text)
		if e != api.OK {
			t.Fatalf("%q: %d", text, e)
		}
		return x
	}
	for _, x := range l {
		if h, ok := frame.Hyp(db.Frames[i], x.Label); ok {
			goals = append(goals, read(h.Text))
		} else {
			hyps, goal, w, e := unify.Fresh(db, frame.Find(db, x.Label), len(works))
			if e != api.OK {
				t.Fatal(e)
			}
			for n, h := range hyps {
				a, b = append(a, h), append(b, goals[x.Args[n]])
			}
			works, goals = append(works, w...), append(goals, goal)
		}
		if len(x.Text) > 0 {
			a, b = append(a, goals[len(goals)-1]), append(b, read(x.Text))
		}
	}
	return goals, append(a, goals[len(goals)-1]), append(b, read(db.Frames[i].Text)), works
}

// P21.1, P21.2 and P21.4: random lines.
func TestRandomLines(t *testing.T) {
	r := rand.New(rand.NewSource(22))
	counts := map[api.Errno]int{}
	for range 700 {
		db, _ := with(t, "")
		text := strings.Join(formula(t, db, random(r, 'w', 2)), " ")
		db, i := with(t, "$d x y z ph ps ch $. ${ e $e |- ph $. th $p "+text+" $= ? $. $}")
		l := randomLines(r, db)
		if r.Intn(2) == 0 { // the theorem follows from any line
			l = append(l, Line{Label: "any"}, Line{Label: "keep", Args: []int{len(l), len(l) - 1}})
		}
		goals, a, b, works := equations(t, db, i, l)
		subs, want := unify.Unify(db, a, b)
		values := map[string]api.Tree{}
		for _, s := range subs {
			values[s.Label] = s.Tree
		}
		var trees []api.Tree
		for _, x := range goals {
			trees = append(trees, replaced(x, values))
		}
		for _, w := range works {
			if want == api.OK && len(unify.Works(replaced(w.Tree, values))) > 0 {
				want = ErrOpen
			}
		}
		if want != api.OK {
			trees = nil
		}
		got, e := Trees(db, i, l)
		if e != want || written(got) != written(trees) {
			t.Fatalf("%v by %v: %s, %d, want %s, %d", db.Frames[i], l, written(got), e, written(trees), want)
		}
		counts[e]++
		checkLines(t, r, db, i, l, got, e)
	}
	for _, e := range []api.Errno{api.OK, unify.ErrClash, unify.ErrOccurs, ErrOpen} {
		if counts[e] < 10 {
			t.Errorf("the error %d came %d times", e, counts[e])
		}
	}
}

// checkLines checks the proof of lines, and what their formulas change.
func checkLines(t *testing.T, r *rand.Rand, db api.Database, i int, l []Line, trees []api.Tree, e api.Errno) {
	t.Helper()
	p, wrong := Complete(db, i, l)
	if e != api.OK && wrong != e || e == api.OK && wrong != api.OK && wrong != api.ErrApart {
		t.Fatalf("%v by %v: %v, %d, but Trees %d", db.Frames[i], l, p, wrong, e)
	}
	at := r.Intn(len(l))
	if e == api.OK {
		if text := formula(t, db, trees[len(trees)-1]); !slices.Equal(text, db.Frames[i].Text) {
			t.Fatalf("%v by %v: the last line is %q", db.Frames[i], l, text)
		}
		more := slices.Clone(l)
		more[at].Text = formula(t, db, trees[at])
		again, f := Trees(db, i, more)
		q, f2 := Complete(db, i, more)
		if f != api.OK || f2 != wrong || written(again) != written(trees) || !sameProof(p, q) {
			t.Fatalf("%v by %v: with one formula more %v, %d, %d", db.Frames[i], l, q, f, f2)
		}
	}
	if wrong == api.OK {
		if _, v, f := graph.Texts(db, i, p); f != api.OK || v.Code != api.OK {
			t.Fatalf("%v by %v: %v, %d", db.Frames[i], l, v, f)
		}
		labels, f := graph.Labels(db, i, p)
		if v, g := verify.Proof(db, i, labels); f != api.ErrLarge && (f != api.OK || g != api.OK || v.Code != api.OK) {
			t.Fatalf("%v by %v: %v, %d, %d", db.Frames[i], l, v, f, g)
		}
	}
	fewer := slices.Clone(l)
	fewer[at].Text = nil
	if _, f := Trees(db, i, fewer); e != unify.ErrClash && e != unify.ErrOccurs && (f == unify.ErrClash || f == unify.ErrOccurs) {
		t.Fatalf("%v by %v: %d, but with one formula less %d", db.Frames[i], l, e, f)
	}
}

// built has what makes large formulas of small ones.
const built = `${ b1 $e |- ph $. twice $a |- ( ph -> ph ) $. $} ${ b2 $e |- ph $. not $a |- -. ph $. $} ${ b3 $e |- ph $. notnot $a |- -. -. ph $. $} ${ b4 $e |- ph $. b5 $e |- ps $. both $a |- ( ph -> ps ) $. $} `

// P21.1: formulas of lines with 2000 symbols, and with 2001, also of lines that are not needed.
func TestLongFormulas(t *testing.T) {
	db, i := with(t, built+"th $p |- T. $= ? $.")
	s := "tt" + strings.Repeat(" ; twice %", 8) + " ; not 2 ; not %"
	for n := 4; n <= 8; n++ {
		s += " ; both " + strconv.Itoa(n) + " %"
	}
	for _, x := range []struct {
		more string
		want api.Errno
	}{
		{" ; keep 0 %", api.OK}, {" ; tt", api.OK}, {" ; not % ; keep 0 %", api.ErrLarge}, {" ; not % ; tt", api.ErrLarge},
		{" ; ax5 : |- ( ph -> A. x ph ) ; tt", api.ErrApart}, {" ; ax5 : |- ( ph -> A. x ph ) ; not 15 ; tt", api.ErrLarge},
	} {
		parts := strings.Split(s+x.more, ";")
		for n := range parts {
			parts[n] = strings.ReplaceAll(parts[n], "%", strconv.Itoa(n-1))
		}
		l := lines(strings.Join(parts, ";"))
		trees, e := Trees(db, i, l)
		if e != api.OK || len(formula(t, db, trees[15])) != api.MaxFormula {
			t.Fatalf("%q: %d", x.more, e)
		}
		if p, e := Complete(db, i, l); e != x.want || (e == api.OK) != (len(p.Steps) > 0) {
			t.Errorf("%q: %d steps, %d, want %d", x.more, len(p.Steps), e, x.want)
		}
	}
}

// P21.1: trees of lines may be larger and deeper than those of formulas, but what work variables become may not.
func TestLargeTrees(t *testing.T) {
	db, i := with(t, built+"th $p |- T. $= ? $.")
	chain := func(label string, n int, first string) string {
		s := first
		for k := range n {
			s += " ; " + label + " " + strconv.Itoa(k)
		}
		return s + " ; tt"
	}
	deep := "any : |- " + strings.Repeat("-. ", 98) + "T." // a depth of 99
	for _, x := range []struct {
		lines        string
		at           int
		nodes, depth int
		e, complete  api.Errno
	}{
		{chain("twice", 10, "tt"), 10, 2047, 11, api.OK, api.ErrLarge},
		{chain("twice", 11, "tt"), 11, 4095, 12, api.OK, api.ErrLarge},
		{chain("twice", 12, "tt"), 12, 0, 0, api.ErrLarge, api.ErrLarge},
		{chain("twice", 60, "tt"), 12, 0, 0, api.ErrLarge, api.ErrLarge},
		{chain("not", 2, deep), 2, 101, 101, api.OK, api.OK},
		{chain("notnot", 1, deep), 1, 101, 101, api.OK, api.OK},
		{chain("not", 3, deep), 3, 0, 0, api.ErrDepth, api.ErrDepth},
		{"any : |- " + strings.Repeat("-. ", 99) + "T. ; notnot 0 ; tt", 1, 102, 102, api.OK, api.OK},
		{"any : |- " + strings.Repeat("-. ", 100) + "T. ; notnot 0 ; tt", 1, 0, 0, api.ErrDepth, api.ErrDepth},
	} {
		l, e := Trees(db, i, lines(x.lines))
		nodes, depth := 0, 0
		if e == api.OK {
			nodes, depth = syntax.Size(l[x.at])
		}
		if e != x.e || nodes != x.nodes || depth != x.depth {
			t.Errorf("%.60q: %d, %d, %d, want %d, %d, %d", x.lines, nodes, depth, e, x.nodes, x.depth, x.e)
		}
		if p, e := Complete(db, i, lines(x.lines)); e != x.complete || e == api.OK && len(p.Steps) != 1 {
			t.Errorf("%.60q: %v, %d, want %d", x.lines, p, e, x.complete)
		}
	}
}

// chains returns trees for which the number of different parts, T. among them, and a cost of each tree are a total.
func chains(total, cost int) []api.Tree {
	var l []api.Tree
	known := map[string]bool{"tru": true}
	count := 1
	for _, a := range []string{"wph", "wps", "wch", "tru"} {
		for _, b := range []string{"wph", "wps", "wch", "tru"} {
			for _, label := range []string{"wn", "wal"} {
				x := api.Tree{Label: "wi", Kids: []api.Tree{{Label: a}, {Label: b}}}
				if label == "wal" {
					x = api.Tree{Label: "wal", Kids: []api.Tree{x, {Label: "vx"}}}
				}
				count += cost
				for _, part := range append(append(x.Kids, x.Kids[0].Kids...), x) {
					if s := written([]api.Tree{part}); !known[s] {
						known[s] = true
						count++
					}
				}
				for n := 0; n < 80 || total-count < 16; n++ { // so that no tree steps over the total
					if count == total {
						return append(l, x)
					}
					x = api.Tree{Label: "wn", Kids: []api.Tree{x}}
					count++
				}
				l = append(l, x)
			}
		}
	}
	return l
}

// distinct returns how many different parts some trees have.
func distinct(l []api.Tree) int {
	found := map[string]bool{}
	var add func(t api.Tree)
	add = func(t api.Tree) {
		found[written([]api.Tree{t})] = true
		for _, k := range t.Kids {
			add(k)
		}
	}
	for _, t := range l {
		add(t)
	}
	return len(found)
}

// P21.1: proofs of trees with 2000 steps, and with 2001.
func TestLongBuild(t *testing.T) {
	db, _ := with(t, "")
	for n, want := range map[int]api.Errno{api.MaxSteps: api.OK, api.MaxSteps + 1: api.ErrLarge} {
		l := chains(n, 1) // a pair less than there are trees
		for len(l) > 1 {  // in pairs, so that they are not deep
			l = append(l[2:], api.Tree{Label: "wi", Kids: []api.Tree{l[0], l[1]}})
		}
		l[0] = api.Tree{Label: "wi", Kids: []api.Tree{l[0], {Label: "tru"}}}
		p, e := Build(db, l[0])
		if distinct(l) != n || e != want || e == api.OK && len(p.Steps) != n {
			t.Errorf("%d: %d steps of %d, %d, want %d", n, len(p.Steps), distinct(l), e, want)
		}
	}
}

// P21.1: whole proofs of 2000 steps, and of 2001. Lines that are not needed do not count.
func TestLongProofs(t *testing.T) {
	db, i := with(t, "th $p |- T. $= ? $.")
	for _, x := range []struct {
		steps, more int
		want        api.Errno
	}{{api.MaxSteps, 0, api.OK}, {api.MaxSteps + 1, 0, api.ErrLarge}, {api.MaxSteps, 3, api.OK}} {
		trees := chains(x.steps-1, 2) // two lines for each tree, and the first one
		if n := 1 + 2*len(trees) + distinct(append(trees, api.Tree{Label: "tru"})); n != x.steps {
			t.Fatalf("%d of %d", n, x.steps)
		}
		l := []Line{{Label: "tt"}}
		for _, tree := range trees {
			last := len(l) - 1
			l = append(l, Line{Label: "any", Text: formula(t, db, tree)}, Line{Label: "keep", Args: []int{last, last + 1}})
		}
		for range x.more { // ahead of the last line, which still needs the same ones
			other := Line{Label: "any", Text: strings.Fields("|- " + strings.Repeat("-. ", 90) + "x = y")}
			l = slices.Insert(l, len(l)-1, other)
		}
		p, e := Complete(db, i, l)
		if e != x.want || e == api.OK && len(p.Steps) != x.steps {
			t.Errorf("%d and %d more lines: %d steps, %d, want %d", x.steps, x.more, len(p.Steps), e, x.want)
		}
	}
}

// silent is a logic in which each part of an implication has two nodes, but one symbol at most.
func silent(t *testing.T) api.Database {
	s := "$c wff part |- => T. $. $v P Q "
	floats := "fP $f part P $. fQ $f part Q $. "
	for n := range 32 {
		v := "p" + strconv.Itoa(n)
		s += v + " "
		floats += "w" + v + " $f wff " + v + " $. "
	}
	return database(t, s+"$. "+floats+"wpart $a part p0 $. wimp $a wff => P Q $. tru $a wff T. $. tt $a |- T. $. any $a |- p0 $. ${ a1 $e |- p0 $. a2 $e |- p1 $. both $a |- => p0 p1 $. keep $a |- p0 $. $} th $p |- T. $= ? $. ")
}

// P21.1: what a floating hypothesis becomes may have more than 2000 nodes, but its proof no more than 2000 steps, also where it is not needed.
func TestLargeValues(t *testing.T) {
	db := silent(t)
	i := frame.Find(db, "th")
	for _, x := range []struct {
		texts       int
		isDifferent bool // whether the formulas have no two leaves in common, side by side
		want        api.Errno
	}{{10, false, api.OK}, {10, true, api.ErrLarge}, {9, true, api.OK}} {
		var l []Line
		for n := range x.texts {
			var leaves []string
			for k := range 50 {
				if x.isDifferent {
					k += 50 * n
				}
				leaves = append(leaves, "p"+strconv.Itoa(k%32), "p"+strconv.Itoa(k/32))
			}
			l = append(l, Line{Label: "any", Text: strings.Fields("|- " + balanced(leaves))})
		}
		for n := 0; len(l) < 2*x.texts-1; n += 2 {
			l = append(l, Line{Label: "both", Args: []int{n, n + 1}})
		}
		last := len(l) - 1
		l = append(l, Line{Label: "tt"}, Line{Label: "keep", Args: []int{last + 1, last}}, Line{Label: "tt"}) // the last one needs no other
		trees, e := Trees(db, i, l)
		if e != api.OK {
			t.Fatal(e)
		}
		nodes, _ := syntax.Size(trees[last])
		if p, e := Complete(db, i, l); e != x.want || nodes <= api.MaxSteps || e == api.OK && len(p.Steps) != 1 {
			t.Errorf("%d texts, %d nodes, of which %d are different: %d steps, %d, want %d", x.texts, nodes, distinct(trees[last:last+1]), len(p.Steps), e, x.want)
		}
	}
}

// balanced returns a formula with some leaves, which is not deep.
func balanced(l []string) string {
	for len(l) > 1 {
		var next []string
		for n := 0; n+1 < len(l); n += 2 {
			next = append(next, "=> "+l[n]+" "+l[n+1])
		}
		if len(l)%2 > 0 {
			next = append(next, l[len(l)-1])
		}
		l = next
	}
	return l[0]
}
