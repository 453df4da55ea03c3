package assist

import (
	"slices"
	"strings"
	"testing"

	"apodixis/api"
	"apodixis/frame"
	"apodixis/graph"
	"apodixis/syntax"
)

// steps returns a text of a proof, such as "wph wps a1(0,1)".
func steps(p api.Proof) string {
	var l []string
	for _, s := range p.Steps {
		t := api.Tree{Label: s.Label}
		for _, a := range s.Args {
			t.Kids = append(t.Kids, api.Tree{Label: string(rune('0' + a))})
		}
		l = append(l, written(t))
	}
	return strings.Join(l, " ")
}

// P22.1 and P22.2: proofs by hand, and the errors of Proof.
func TestProof(t *testing.T) {
	const id = "th $p |- ( ph -> ( ph -> ph ) ) $= ? $."
	const mp = "${ e1 $e |- ph $. e2 $e |- ( ph -> ps ) $. th $p |- ps $= ? $. $}"
	for name, x := range map[string]struct {
		s, moves, want string
		e              api.Errno
	}{
		"the chapter's example":     {id, "apply 0 a1", "wph a1(0,0)", api.OK},
		"nothing is done":           {id, "", "", ErrOpen},
		"open goals":                {id, "apply 0 mp", "", ErrOpen},
		"modus ponens":              {mp, "apply 0 mp; assume 2 e2; assume 1 e1", "wph wps e1 e2 mp(0,1,2,3)", api.OK},
		"one is open":               {mp, "apply 0 mp; assume 2 e2", "", ErrOpen},
		"one more, of no use":       {mp, "apply 0 mp; assume 2 e2; assume 1 e1; have wch", "wph wps e1 e2 mp(0,1,2,3)", api.OK},
		"a work variable":           {"th $p |- T. $= ? $.", "apply 0 mp; apply 1 any; apply 2 any", "", ErrOpen},
		"it is set":                 {"th $p |- T. $= ? $.", "apply 0 mp; apply 1 any; apply 2 any; set &wff.0 wph", "wph tru any(0) wi(0,1) any(3) mp(0,1,2,4)", api.OK},
		"of no use, with a work":    {"th $p |- T. $= ? $.", "apply 0 mp; have wn(&wff.0); set &wff.0 tru; apply 1 tt; apply 2 any", "tru tt wi(0,0) any(2) mp(0,0,1,3)", api.OK},
		"a work of a quantifier":    {"th $p |- T. $= ? $.", "apply 0 mp; apply 1 gen; apply 2 any; apply 3 any", "", ErrOpen},
		"the step 0 by another one": {mp, "have wps; reuse 0 1; apply 1 mp; assume 3 e2; assume 2 e1", "wph wps e1 e2 mp(0,1,2,3)", api.OK},
		"one by one":                {mp, "have wps; have wps; reuse 0 1; reuse 1 2; apply 2 any", "wps any(0)", api.OK},
		"and one of them is open":   {mp, "have wps; have wps; reuse 0 1; reuse 1 2", "", ErrOpen},
		"two by the same":           {"th $p |- ps $= ? $.", "apply 0 mp; set &wff.0 wps; have wps; reuse 1 3; apply 3 any; apply 2 any", "wps any(0) wi(0,0) any(2) mp(0,0,1,3)", api.OK},
		"a disjoint pair":           {"$d x ph $. th $p |- ( ph -> A. x ph ) $= ? $.", "apply 0 a5", "wph vx a5(0,1)", api.OK},
		"a pair of an axiom":        {"${ $d x y $. wd $a wff A. x = y $. $} th $p |- A. x = y $= ? $.", "apply 0 any", "", api.ErrApart},
		"which is there":            {"${ $d x y $. wd $a wff A. x = y $. $} $d x y $. th $p |- A. x = y $= ? $.", "apply 0 any", "vx vy wd(0,1) any(2)", api.OK},
		"a formula with two trees":  {"th $p |- T. $= ? $.", "apply 0 mp; set &wff.0 f1; apply 1 any; apply 2 any", "", syntax.ErrAmbiguous},
		"behind two open ones":      {mp, "have wph; have wph; apply 0 mp; assume 4 e2; reuse 3 1; reuse 1 2; assume 2 e1", "wph wps e1 e2 mp(0,1,2,3)", api.OK},
	} {
		a := start(t, x.s)
		if e := moved(t, a, x.moves); e != api.OK {
			t.Errorf("%s: %d", name, e)
		}
		before := text(a.View())
		p, e := a.Proof()
		if e != x.e || steps(p) != x.want || text(a.View()) != before {
			t.Errorf("%s: %s, %d, want %s, %d", name, steps(p), e, x.want, x.e)
		}
		if e == api.OK {
			db, n := a.Theorem()
			accept(t, db, n, p)
		}
	}
}

// P22.1: the chapter's example as a normal proof.
func TestExample(t *testing.T) {
	db := database(t, "$c wff |- ( ) -> $. $v p q $. wp $f wff p $. wq $f wff q $. wi $a wff ( p -> q ) $. a1 $a |- ( p -> ( q -> p ) ) $. th $p |- ( p -> ( p -> p ) ) $= ? $.")
	a, e := New(db, 2, db.Frames[2])
	if e != api.OK || a.Apply(0, "a1") != api.OK || len(a.View().Open) != 0 {
		t.Fatal(e)
	}
	p, e := a.Proof()
	l, f := graph.Labels(db, 2, p)
	if e != api.OK || f != api.OK || !slices.Equal(l, []string{"wp", "wp", "a1"}) {
		t.Errorf("%v, %d, %d", l, e, f)
	}
}

// P22.1: as many lines, and formulas as long, as infer takes, and one more.
func TestLongProof(t *testing.T) {
	const s = "${ r $e |- T. $. again $a |- T. $. $} "
	for lines, want := range map[int]api.Errno{100: api.OK, 101: api.ErrSize, 900: api.ErrSize} {
		a := start(t, s+"th $p |- T. $= ? $.")
		for n := range lines - 1 {
			if e := a.Apply(n, "again"); e != api.OK {
				t.Fatal(e)
			}
		}
		if p, e := a.Proof(); e != ErrOpen || len(p.Steps) > 0 {
			t.Errorf("%d lines, one open: %d", lines, e)
		}
		a.Apply(lines-1, "tt")
		p, e := a.Proof()
		if e != want || e == api.OK && len(p.Steps) != lines || e != api.OK && len(p.Steps) > 0 {
			t.Errorf("%d lines: %d steps, %d", lines, len(p.Steps), e)
		}
		if e == api.OK {
			db, n := a.Theorem()
			accept(t, db, n, p)
		}
	}
	for n, want := range map[int]api.Errno{199: api.OK, 200: api.OK, 201: api.ErrSize, 3000: api.ErrSize} {
		a := start(t, s+"th $p |- T. $= ? $.")
		moved(t, a, "apply 0 mp; apply 1 any; apply 2 any")
		if e := a.Set("&wff.0", longFormula(n-4)); e != api.OK { // the second premise has four symbols more
			t.Fatalf("%d symbols: %d", n, e)
		}
		p, e := a.Proof()
		if e != want || (e == api.OK) != (len(p.Steps) > 0) {
			t.Errorf("%d symbols: %d steps, %d, want %d", n, len(p.Steps), e, want)
		}
	}
}

// longFormula returns the tree of a formula with so many symbols, which is not deep.
func longFormula(symbols int) api.Tree {
	if symbols < 5 {
		return chain(symbols, "wph")
	}
	left := (symbols - 3) / 2
	return api.Tree{Label: "wi", Kids: []api.Tree{longFormula(left), longFormula(symbols - 3 - left)}}
}

// P22.3: versions are numbered, undone and done again; a change forgets those that were undone, and an error does not.
func TestHistory(t *testing.T) {
	a := start(t, "${ e1 $e |- ph $. th $p |- ph $= ? $. $}")
	views := []string{text(a.View())}
	for _, move := range []string{"apply 0 mp", "apply 2 mp", "set &wff.0 wps", "have wn(&wff.2)", "reuse 5 3", "assume 1 e1", "apply 1 any"} {
		if e := moved(t, a, move); e != api.OK {
			if text(a.View()) != views[len(views)-1] || a.Version() != len(views)-1 {
				t.Errorf("behind the error of %s: %s", move, text(a.View()))
			}
			continue
		}
		views = append(views, text(a.View()))
	}
	last := len(views) - 1
	if last < 5 || a.Redo() {
		t.Fatalf("%d versions", last)
	}
	check := func(n int) {
		t.Helper()
		if a.Version() != n || text(a.View()) != views[n] {
			t.Errorf("the version %d, want %d: %s, want %s", a.Version(), n, text(a.View()), views[n])
		}
	}
	for n := last; n > 0; n-- {
		check(n)
		if !a.Undo() {
			t.Errorf("Undo of %d", n)
		}
	}
	check(0)
	if a.Undo() {
		t.Error("Undo of the first version")
	}
	check(0)
	for n := range last {
		check(n)
		if a.Apply(0, "no") == api.OK || a.Assume(9, "e1") != ErrGoal || !a.Redo() {
			t.Errorf("Redo of %d", n+1)
		}
	}
	check(last)
	if a.Redo() {
		t.Error("Redo of the last version")
	}
	a.Undo()
	a.Undo()
	if e := moved(t, a, "have wch"); e != api.OK || a.Redo() || a.Version() != last-1 {
		t.Errorf("a change behind Undo: %d, the version %d", e, a.Version())
	}
	if !a.Undo() {
		t.Error("Undo of this change")
	}
	check(last - 2)
	// The numbers of work variables are undone, too.
	b := start(t, "th $p |- ph $= ? $.")
	moved(t, b, "apply 0 mp")
	b.Undo()
	moved(t, b, "apply 0 mp")
	if v := text(b.View()); v != "wph mp 1 2; &wff.0 ?; wi(&wff.0,wph) ?" {
		t.Error(v)
	}
}

// P22.1, P1: the methods of nil.
func TestNil(t *testing.T) {
	var a *Assistant
	n, e := a.Have(tree("wph"))
	l, f := a.Applicable(0)
	p, g := a.Proof()
	db, number := a.Theorem()
	if v := a.View(); text(v) != "" || v.Steps != nil || v.Open != nil || v.Apart != nil {
		t.Errorf("View: %v", v)
	}
	for name, e := range map[string]api.Errno{"Apply": a.Apply(0, "mp"), "Assume": a.Assume(0, "e"), "Reuse": a.Reuse(0, 0), "Set": a.Set("&wff.0", tree("wph")), "Have": e, "Applicable": f, "Proof": g} {
		if e != api.ErrArg {
			t.Errorf("%s: %d", name, e)
		}
	}
	if n != 0 || l != nil || len(p.Steps) > 0 || number != 0 || !frame.Equal(db, api.Database{}) || a.Undo() || a.Redo() || a.Version() != 0 {
		t.Error("values")
	}
}

// R4: what is returned is not what is kept, and what was given may change.
func TestMemory(t *testing.T) {
	db := database(t, logic+"${ $d x ph $. e1 $e |- ph $. th $p |- ( ph -> A. x ph ) $= ? $. $}")
	n := frame.Find(db, "th")
	a, _ := New(db, n, db.Frames[n])
	db.Frames[n].Text[1], db.Frames[n].Hyps[0].Text[0], db.Frames[7].Label = "x", "x", "x"
	x := tree("wn(wn(wph))")
	moved(t, a, "apply 0 a5")
	a.Have(x)
	x.Kids[0].Kids[0].Label = "no"
	before := text(a.View())
	v := a.View()
	v.Steps[0].Tree.Kids[0].Label, v.Steps[0].Label, v.Steps[1].Tree.Kids[0].Kids[0].Label, v.Open[0], v.Apart[0].A = "no", "no", "no", 7, "no"
	y, _ := a.Theorem()
	y.Frames[n].Text[1], y.Frames[0].Hyps[0].Text[0], y.Constants[0] = "no", "no", "no"
	p, e := a.Proof()
	if e != api.OK || before != "wi(wph,wal(wph,vx)) a5; wn(wn(wph)) ? | vx wph" || text(a.View()) != before {
		t.Errorf("%d, %s, want %s", e, text(a.View()), before)
	}
	p.Steps[0].Label = "no"
	if p, e := a.Proof(); e != api.OK || steps(p) != "wph vx a5(0,1)" {
		t.Errorf("%v, %d", p, e)
	}
	a.Undo()
	if !a.Redo() || text(a.View()) != before {
		t.Error(text(a.View()))
	}
}
