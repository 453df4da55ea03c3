package book

import (
	"math/rand"
	"slices"
	"strings"
	"testing"

	"apodixis/api"
	"apodixis/frame"
	"apodixis/grammar"
	"apodixis/graph"
	"apodixis/layout"
	"apodixis/syntax"
)

const logic = `$c wff set |- ( ) -> -. A. = T. no $. $v ph ps x y $. wph $f wff ph $. vx $f set x $. wps $f wff ps $. vy $f set y $.
ax0 $a |- ph $. wn $a wff -. ph $. ${ e $e |- ph $. wno $a wff no $. $} wi $a wff ( ph -> ps ) $. wal $a wff A. x ph $. weq $a wff x = y $. th $p wff T. $= ? $. `

// database returns the database of a text.
func database(t *testing.T, s string) api.Database {
	t.Helper()
	l, _, e := layout.Parse(strings.Fields(s))
	db, _, f := frame.Database(l)
	if e != api.OK || f != api.OK {
		t.Fatalf("%q: %d, %d", s, e, f)
	}
	return db
}

// P17.1, as the layers that use a book need it: its trees are those of the whole database, also when they are asked for again.
func TestTree(t *testing.T) {
	for _, s := range []string{logic, logic + "tru $a wff T. $. t2 $a wff no $.", logic + "t1 $a wff T. $. t2 $a wff T. $.", "$c wff |- no T. $. $v ph $. wph $f wff ph $. a $p |- ph $= ? $.", "$c wff $. a $a wff $."} {
		db := database(t, s)
		b, e := Open(db)
		if e != api.OK {
			t.Fatal(e)
		}
		part := b.Part(map[string]bool{"ax0": true, "th": true})
		g, e := grammar.Of(part)
		if whole, f := grammar.Of(db); e != api.OK || f != api.OK || !slices.Equal(g.Sorts, whole.Sorts) || !slices.EqualFunc(g.Rules, whole.Rules, sameRule) {
			t.Errorf("%q: the part has %v, %d", s, g, e)
		}
		texts := []string{"", "|-", "wff", "set x", "no x", "|- ph", "wff -. ph", "|- ( ph -> A. x -. x = y )", "wff T.", "wff no", "|- no", "|- ph ps", "wff " + strings.Repeat("-. ", 100) + "ph", "wff " + strings.Repeat("-. ", 200) + "ph"}
		for _, text := range append(texts, texts...) {
			checkTree(t, b, db, strings.Fields(text))
		}
		checkTree(t, b, db, []string{"wff", "-. ph"})
		checkTree(t, b, db, []string{"wff -.", "ph"})
		checkTree(t, b, db, []string{"wff", "", "ph"})
	}
	if _, e := Open(api.Database{Variables: []string{"x"}}); e != api.ErrState {
		t.Errorf("a database that is not settled: %d", e)
	}
}

func sameRule(a, b grammar.Rule) bool {
	return a.Label == b.Label && a.Sort == b.Sort && a.Variable == b.Variable && slices.Equal(a.Parts, b.Parts)
}

func checkTree(t *testing.T, b *Book, db api.Database, text []string) {
	t.Helper()
	want, wrong := syntax.Tree(db, text)
	x, e := b.Tree(text)
	if e != wrong || !syntax.Equal(x, want) {
		t.Errorf("%q: %v, %d, want %v, %d", text, x, e, want, wrong)
	}
	if e == api.OK && !slices.Equal(slices.Collect(b.Symbols(x)), text[1:]) {
		t.Errorf("%q: the symbols %q", text, slices.Collect(b.Symbols(x)))
	}
	count := 0
	for range Nodes(x) {
		count++
	}
	if nodes, _ := syntax.Size(x); count != nodes {
		t.Errorf("%q: %d nodes of %d", text, count, nodes)
	}
	for most := range 5 { // loops that are left early
		left := most
		for range Nodes(x) {
			left--
			if left < 0 {
				break
			}
		}
		left = most
		for range b.Symbols(x) {
			left--
			if left < 0 {
				break
			}
		}
	}
}

// P9.1, as the layers that use steps need it: their proofs are shared ones.
func TestSteps(t *testing.T) {
	r := rand.New(rand.NewSource(9))
	for range 500 {
		s := NewSteps()
		var p api.Proof
		var place []int
		for n := range 1 + r.Intn(12) {
			x := api.Step{Label: string(rune('a' + r.Intn(3)))}
			for range min(n, r.Intn(3)) {
				x.Args = append(x.Args, r.Intn(n))
			}
			var args []int
			for _, a := range x.Args {
				args = append(args, place[a])
			}
			p.Steps = append(p.Steps, x)
			place = append(place, s.Add(x.Label, args))
		}
		want, _ := graph.Share(p)
		got, ok := s.Proof(place[len(place)-1])
		if !ok || !slices.EqualFunc(got.Steps, want.Steps, func(a, b api.Step) bool { return a.Label == b.Label && slices.Equal(a.Args, b.Args) }) {
			t.Fatalf("%v: %v, %t, want %v", p, got, ok, want)
		}
	}
	s := NewSteps()
	last := s.Add("a", nil)
	for range api.MaxSteps - 1 {
		last = s.Add("a", []int{last})
	}
	other := s.Add("b", nil)
	if p, ok := s.Proof(last); !ok || len(p.Steps) != api.MaxSteps {
		t.Errorf("%d steps, %t", len(p.Steps), ok)
	}
	if p, ok := s.Proof(s.Add("c", []int{last})); ok || len(p.Steps) > 0 {
		t.Errorf("%d steps, %t", len(p.Steps), ok)
	}
	if p, ok := s.Proof(other); !ok || len(p.Steps) != 1 {
		t.Errorf("%v, %t", p, ok)
	}
}

// R4: copies are equal, and no memory is shared.
func TestCopies(t *testing.T) {
	x := api.Tree{Label: "wi", Kids: []api.Tree{{Label: "wph"}, {Label: "wn", Kids: []api.Tree{{Label: "wps"}}}}}
	y := Copy(x)
	if !syntax.Equal(x, y) {
		t.Errorf("%v", y)
	}
	y.Kids[1].Kids[0].Label, y.Kids[0].Label = "no", "no"
	if x.Kids[1].Kids[0].Label != "wps" || x.Kids[0].Label != "wph" {
		t.Errorf("%v", x)
	}
	const apart = "${ $d x ph $. ${ $d y ps $. e2 $e |- ( ph -> A. x ph ) $. last $p |- ps $= ? ? $. $} $}"
	db, other := database(t, logic+apart), database(t, logic+apart)
	copied := CopyDatabase(db)
	if !frame.Equal(db, copied) || !frame.Equal(CopyDatabase(api.Database{}), api.Database{}) {
		t.Errorf("%v", copied)
	}
	f := &copied.Frames[len(copied.Frames)-1]
	f.Hyps[0].Text[0], f.Dummies[0].Text[0], f.Text[0], f.Proof[0] = "no", "no", "no", "no"
	f.Hyps[0].Label, f.Dummies[0].Label, f.Apart[0].A, f.Wide[0].A = "no", "no", "no", "no"
	copied.Constants[0], copied.Variables[0], copied.Frames[0].Label = "no", "no", "no"
	if !frame.Equal(db, other) {
		t.Errorf("%v", db)
	}
}

// What a database and its assertions have: the turnstile, premises, and the labels of disjoint pairs.
func TestParts(t *testing.T) {
	db := database(t, logic+"${ $d x ph $. ${ $d y ps $. e2 $e |- ( ph -> A. x ph ) $. e3 $e wff ps $. last $p |- ps $= ? $. $} $}")
	b, e := Open(db)
	last := db.Frames[len(db.Frames)-1]
	if l := Premises(last); e != api.OK || len(l) != 2 || l[0].Label != "e2" || l[1].Label != "e3" || !IsAsserted(l[0].Text) || IsAsserted(l[1].Text) || !HasOther(last) {
		t.Errorf("%v, %d", l, e)
	}
	if wno := db.Frames[frame.Find(db, "wno")]; HasOther(wno) || len(Premises(wno)) != 1 || HasOther(db.Frames[0]) || len(Premises(db.Frames[0])) > 0 {
		t.Errorf("%v", Premises(wno))
	}
	if l := b.Permitted(last); len(l) != 2 || !l[api.Pair{A: "vx", B: "wph"}] || !l[api.Pair{A: "vy", B: "wps"}] || len(b.Permitted(db.Frames[0])) > 0 {
		t.Errorf("%v", l)
	}
	if b.LabelOf("x") != "vx" || b.LabelOf("ps") != "wps" || b.LabelOf("T.") != "" {
		t.Error("labels")
	}
}
