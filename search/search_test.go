package search

import (
	"slices"
	"strings"
	"testing"

	"apodixis/api"
	"apodixis/assist"
)

// P23.1: the chapter's examples, and further theorems by hand.
func TestExamples(t *testing.T) {
	for name, x := range map[string]struct {
		s           string
		o           Options
		deep, best  api.Errno
		depth, used int // of Deepen
	}{
		"an axiom":              {"th $p |- ( ph -> ( ph -> ph ) ) $= ? $.", Options{1, 100, nil}, api.OK, api.OK, 1, 1},
		"modus ponens":          {"${ e1 $e |- ph $. e2 $e |- ( ph -> ps ) $. th $p |- ps $= ? $. $}", Options{3, 1000, []string{"mp"}}, api.OK, api.OK, 3, 12},
		"a premise":             {"${ e1 $e |- ph $. th $p |- ph $= ? $. $}", Options{5, 1, nil}, api.OK, api.ErrSteps, 1, 1},
		"the second premise":    {"${ e1 $e |- ph $. e2 $e |- ph $. e3 $e |- ps $. th $p |- ps $= ? $. $}", Options{5, 3, nil}, api.OK, api.ErrSteps, 1, 3},
		"a premise ahead":       {"${ e1 $e |- T. $. th $p |- T. $= ? $. $}", Options{5, 9, nil}, api.OK, api.ErrSteps, 1, 1},
		"premises are used":     {"${ e1 $e |- T. $. th $p |- T. $= ? $. $}", Options{5, 9, []string{"tt"}}, api.OK, api.OK, 1, 1},
		"the depth 0":           {"th $p |- T. $= ? $.", Options{0, 100, nil}, api.ErrNone, api.ErrNone, 0, 0},
		"no fuel":               {"th $p |- T. $= ? $.", Options{1, 0, nil}, api.ErrSteps, api.ErrSteps, 0, 0},
		"neither":               {"th $p |- T. $= ? $.", Options{0, 0, nil}, api.ErrNone, api.ErrNone, 0, 0},
		"as much as is needed":  {"th $p |- T. $= ? $.", Options{1, 8, nil}, api.OK, api.ErrSteps, 1, 8},
		"one less":              {"th $p |- T. $= ? $.", Options{1, 7, nil}, api.ErrSteps, api.ErrSteps, 0, 7},
		"only one":              {"th $p |- T. $= ? $.", Options{1, 1, []string{"tt"}}, api.OK, api.OK, 1, 1},
		"one that is twice":     {"th $p |- T. $= ? $.", Options{1, 1, []string{"tt", "tt", "no", ""}}, api.OK, api.OK, 1, 1},
		"nothing is used":       {"th $p |- T. $= ? $.", Options{12, 0, []string{"no", "tru", "th", "wt"}}, api.ErrNone, api.ErrNone, 0, 0},
		"a label of syntax":     {"th $p |- T. $= ? $.", Options{12, 0, []string{"wt"}}, api.ErrNone, api.ErrNone, 0, 0},
		"one that cannot be":    {"th $p |- T. $= ? $.", Options{3, 100, []string{"other"}}, api.ErrNone, api.ErrNone, 0, 3},
		"what stands behind":    {"th $p |- T. $= ? $. late $a |- T. $.", Options{12, 0, []string{"late"}}, api.ErrNone, api.ErrNone, 0, 0},
		"a work variable stays": {"th $p |- T. $= ? $. any $a |- ph $.", Options{3, 2, []string{"mp", "a1"}}, api.ErrSteps, api.ErrSteps, 0, 2},
	} {
		db, n := theorem(t, x.s)
		f, e := Deepen(db, n, db.Frames[n], x.o)
		if e != x.deep || f.Depth != x.depth || f.Used != x.used || (len(f.Proof.Steps) > 0) != (e == api.OK) {
			t.Errorf("%s: Deepen: %v, %d, want %d, %d, %d", name, f, e, x.depth, x.used, x.deep)
		}
		if e == api.OK {
			accept(t, db, n, f.Proof, x.o.Use)
		}
		g, e := Best(db, n, db.Frames[n], x.o)
		if e != x.best || e == api.OK && g.Depth != x.depth || (len(g.Proof.Steps) > 0) != (e == api.OK) || e == api.ErrSteps && !sameFound(g, Found{Used: x.o.Fuel}) {
			t.Errorf("%s: Best: %v, %d, want %d, %d", name, g, e, x.depth, x.best)
		}
		if e == api.OK {
			accept(t, db, n, g.Proof, x.o.Use)
		}
	}
}

// P23.1: a proof of which only the whole shows that it is none: the axiom of syntax breaks a pair.
func TestProofFails(t *testing.T) {
	db, n := theorem(t, "${ $d x y $. wd $a wff x y $. $} any $a |- ph $. ${ e1 $e |- x y $. th $p |- x y $= ? $. $}")
	for _, use := range []string{"any", "tt"} {
		o := Options{2, 100, []string{use}}
		f, e := Deepen(db, n, db.Frames[n], o)
		g, h := Best(db, n, db.Frames[n], o)
		if e != api.OK || h != api.OK || f.Used != 1 || g.Used != 2 || f.Depth != 1 || g.Depth != 1 || f.Proof.Steps[len(f.Proof.Steps)-1].Label != "e1" {
			t.Errorf("%s: %v, %d and %v, %d", use, f, e, g, h)
		}
	}
	db, n = theorem(t, "${ $d x y $. wd $a wff x y $. $} any $a |- ph $. th $p |- x y $= ? $.")
	o := Options{2, 100, []string{"any"}}
	f, e := Deepen(db, n, db.Frames[n], o)
	g, h := Best(db, n, db.Frames[n], o)
	if e != api.ErrNone || h != api.ErrNone || !sameFound(f, Found{Used: 2}) || !sameFound(g, Found{Used: 1}) {
		t.Errorf("%v, %d and %v, %d", f, e, g, h)
	}
}

// P23.1: wrong options, ahead of everything, and then the errors of assist.New.
func TestErrors(t *testing.T) {
	db, n := theorem(t, "th $p |- T. $= ? $.")
	a, _ := assist.New(db, n, db.Frames[n])
	for _, x := range []struct {
		depth, fuel int
		want        api.Errno
	}{
		{0, 0, api.OK}, {12, 20000, api.OK}, {-1, 0, api.ErrRange}, {13, 0, api.ErrRange}, {0, -1, api.ErrRange}, {0, 20001, api.ErrRange}, {-1 << 63, 1<<63 - 1, api.ErrRange},
	} {
		o := Options{x.depth, x.fuel, []string{"no"}}
		for name, search := range map[string]func(api.Database, int, api.Frame, Options) (Found, api.Errno){"Deepen": Deepen, "Best": Best} {
			if f, e := search(db, n, db.Frames[n], o); x.want == api.OK && e != api.ErrNone || x.want != api.OK && e != x.want || !sameFound(f, Found{}) {
				t.Errorf("%s of %v: %v, %d", name, o, f, e)
			}
			for number, want := range map[int]api.Errno{-1: api.ErrRange, len(db.Frames) + 1: api.ErrRange, n + 1: api.ErrTwice} {
				if x.want != api.OK {
					want = x.want
				}
				if f, e := search(db, number, db.Frames[n], o); e != want || !sameFound(f, Found{}) {
					t.Errorf("%s of %v behind %d: %v, %d, want %d", name, o, number, f, e, want)
				}
			}
			if f, e := search(api.Database{}, 0, api.Frame{}, o); x.want == api.OK && e != api.ErrForm || x.want != api.OK && e != x.want || !sameFound(f, Found{}) {
				t.Errorf("%s of nothing by %v: %v, %d", name, o, f, e)
			}
		}
		if count, e := Fill(a, o); e != x.want || count != 0 {
			t.Errorf("Fill by %v: %d, %d", o, count, e)
		}
		if count, e := Fill(nil, o); e != api.ErrArg || count != 0 {
			t.Errorf("Fill of nil by %v: %d, %d", o, count, e)
		}
	}
}

// P23.1: Fill by hand: each goal for itself, and the fuel for all of them.
func TestFill(t *testing.T) {
	db, n := theorem(t, "${ e1 $e |- ph $. e2 $e |- ( ph -> ps ) $. th $p |- ps $= ? $. $}")
	for name, x := range map[string]struct {
		o     Options
		moves string
		count int
		want  string
	}{
		"the goal":                {Options{3, 1000, []string{"mp"}}, "", 1, "wps mp 1 2; wph e1; wi(wph,wps) e2"},
		"not deep enough":         {Options{2, 1000, []string{"mp"}}, "", 0, "wps "},
		"goals of work variables": {Options{1, 1000, []string{"mp"}}, "mp", 2, "wps mp 1 2; wph e1; wi(wph,wps) e2"},
		"nothing to do":           {Options{3, 1000, nil}, "mp e1 e2", 0, "wps mp 1 2; wph e1; wi(wph,wps) e2"},
		"no fuel":                 {Options{3, 0, nil}, "", 0, "wps "},
		"no depth":                {Options{0, 9, nil}, "", 0, "wps "},
	} {
		a, _ := assist.New(db, n, db.Frames[n])
		for goal, label := range strings.Fields(x.moves) {
			if e := Run(a, goal, By(label)); e != api.OK {
				t.Fatalf("%s: %d", name, e)
			}
		}
		before := a.Version()
		count, e := Fill(a, x.o)
		if e != api.OK || count != x.count || text(a.View()) != x.want || count == 0 && a.Version() != before {
			t.Errorf("%s: %d, %d, %s, want %d, %s", name, count, e, text(a.View()), x.count, x.want)
		}
	}
	// Of four goals the second and the last one are filled. The first and the third one take two attempts each.
	for fuel, want := range map[int]int{1000: 2, 6: 2, 5: 1, 4: 1, 3: 1, 2: 0, 1: 0} {
		a, _ := assist.New(db, n, db.Frames[n])
		for _, s := range []string{"wph", "wch", "wph"} {
			a.Have(api.Tree{Label: s})
		}
		count, e := Fill(a, Options{1, fuel, []string{"no"}})
		if v := text(a.View()); e != api.OK || count != want || v != []string{"wps ; wph ; wch ; wph ", "wps ; wph e1; wch ; wph ", "wps ; wph e1; wch ; wph e1"}[want] {
			t.Errorf("the fuel %d: %d, %d, %s", fuel, count, e, v)
		}
	}
}

// start returns an assistant for a theorem of psi by two premises.
func start(t *testing.T) *assist.Assistant {
	t.Helper()
	db, n := theorem(t, "${ e1 $e |- ph $. e2 $e |- ( ph -> ps ) $. th $p |- ps $= ? $. $}")
	a, e := assist.New(db, n, db.Frames[n])
	if e != api.OK {
		t.Fatal(e)
	}
	return a
}

// P23.1 and P23.4: tactics by hand.
func TestTactics(t *testing.T) {
	var calls []int
	note := func(e api.Errno) Tactic {
		return func(a *assist.Assistant, goal int) api.Errno {
			calls = append(calls, goal)
			return e
		}
	}
	have := func(e api.Errno) Tactic {
		return func(a *assist.Assistant, goal int) api.Errno {
			a.Have(api.Tree{Label: "wch"})
			return e
		}
	}
	all := func(l ...Tactic) Tactic {
		return func(a *assist.Assistant, goal int) api.Errno {
			for _, x := range l {
				if e := x(a, goal); e != api.OK {
					return e
				}
			}
			return api.OK
		}
	}
	second := func(a *assist.Assistant, goal int) api.Errno { return a.Assume(goal+1, "e2") }
	const mp, done = "wps mp 1 2; &wff.0 ; wi(&wff.0,wps) ", "wps mp 1 2; wph e1; wi(wph,wps) e2"
	for name, x := range map[string]struct {
		t     Tactic
		want  string
		e     api.Errno
		calls string
	}{
		"an assertion":              {By("mp"), mp, api.OK, ""},
		"no assertion":              {By("no"), "wps ", api.ErrNone, ""},
		"one that does not fit":     {By("a1"), "wps ", assist.ErrUnify, ""},
		"a syntax axiom":            {By("tru"), "wps ", api.ErrType, ""},
		"a premise":                 {By("e1"), "wps ", assist.ErrUnify, ""},
		"no premise fits":           {Assumption(), "wps ", api.ErrNone, ""},
		"mp, and premises":          {Then(By("mp"), Assumption()), done, api.OK, ""},
		"mp, and e1 for both":       {Then(By("mp"), By("e1")), "wps ", assist.ErrUnify, ""},
		"mp, and another order":     {Then(By("mp"), Else(By("e2"), By("e1"))), "wps ", assist.ErrUnify, ""},
		"each by its own":           {Then(By("mp"), Else(By("e1"), By("e2"))), done, api.OK, ""},
		"nothing is added":          {Then(note(api.OK), note(5)), "wps ", api.OK, "0"},
		"the first fails":           {Then(note(7), note(5)), "wps ", 7, "0"},
		"the second fails":          {Then(By("mp"), note(6)), "wps ", 6, "1"},
		"for both":                  {Then(By("mp"), note(api.OK)), mp, api.OK, "1 2"},
		"only for those of it":      {Then(have(api.OK), Then(By("mp"), note(9))), "wps ", 9, "2"},
		"one that closes another":   {Then(By("mp"), Else(second, note(api.OK))), "wps mp 1 2; wph ; wi(wph,wps) e2", api.OK, ""},
		"only what a adds":          {Then(By("mp"), have(api.OK)), mp + "; wch ; wch ", api.OK, ""},
		"not the other one":         {Else(By("mp"), note(api.OK)), mp, api.OK, ""},
		"the other one":             {Else(By("a1"), note(api.OK)), "wps ", api.OK, "0"},
		"the other one fails":       {Else(By("a1"), note(8)), "wps ", 8, "0"},
		"what was done is undone":   {Else(all(have(api.OK), have(9)), By("mp")), mp, api.OK, ""},
		"repeated":                  {Repeat(Assumption(), 3), "wps ", api.OK, ""},
		"repeated 0 times":          {Repeat(By("mp"), 0), "wps ", api.OK, ""},
		"repeated below 0 times":    {Repeat(By("mp"), -1<<62), "wps ", api.OK, ""},
		"repeated once":             {Repeat(By("mp"), 1), mp, api.OK, ""},
		"repeated twice":            {Repeat(By("mp"), 2), "wps mp 1 2; &wff.0 mp 3 4; wi(&wff.0,wps) mp 5 6; &wff.2 ; wi(&wff.2,&wff.0) ; &wff.4 ; wi(&wff.4,wi(&wff.0,wps)) ", api.OK, ""},
		"repeated, and undone":      {Repeat(all(By("mp"), note(9)), 2), "wps ", api.OK, "0"},
		"by turns":                  {Repeat(Else(Assumption(), By("mp")), 2), done, api.OK, ""},
		"very often":                {Repeat(Else(Assumption(), By("mp")), 1<<62), done, api.OK, ""},
		"no tactic":                 {nil, "wps ", api.ErrArg, ""},
		"no tactic ahead":           {Then(nil, note(api.OK)), "wps ", api.ErrArg, ""},
		"no tactic behind":          {Then(By("mp"), nil), "wps ", api.ErrArg, ""},
		"no tactic for nothing":     {Then(note(api.OK), nil), "wps ", api.OK, "0"},
		"no tactic, or another one": {Else(nil, By("mp")), mp, api.OK, ""},
		"or none":                   {Else(By("a1"), nil), "wps ", api.ErrArg, ""},
		"no tactic repeated":        {Repeat(nil, 3), "wps ", api.OK, ""},
		"one that panics":           {all(have(api.OK), func(a *assist.Assistant, goal int) api.Errno { panic("no") }), "wps ", api.ErrArg, ""},
		"or one that panics":        {Else(func(a *assist.Assistant, goal int) api.Errno { panic(nil) }, By("mp")), mp, api.OK, ""},
		"one that goes back":        {all(have(api.OK), func(a *assist.Assistant, goal int) api.Errno { a.Undo(); return 9 }), "wps ", 9, ""},
	} {
		a := start(t)
		calls = nil
		e := Run(a, 0, x.t)
		if v := text(a.View()); e != x.e || v != x.want {
			t.Errorf("%s: %d, %s\nwant %d, %s", name, e, v, x.e, x.want)
		}
		if e != api.OK && a.Version() != 0 {
			t.Errorf("%s: the version %d", name, a.Version())
		}
		var want []int
		for _, s := range strings.Fields(x.calls) {
			want = append(want, int(s[0]-'0'))
		}
		if !slices.Equal(calls, want) {
			t.Errorf("%s: called with %v, want %v", name, calls, want)
		}
		if e := Run(nil, 0, x.t); e != api.ErrArg {
			t.Errorf("%s of nil: %d", name, e)
		}
		if x.t == nil {
			continue
		}
		for _, own := range []Tactic{Then(x.t, x.t), Else(x.t, x.t), Repeat(x.t, 3), Repeat(x.t, 0), By("mp"), Assumption()} {
			if e := own(nil, 0); e != api.ErrArg {
				t.Errorf("%s within another one, of nil: %d", name, e)
			}
		}
	}
}
