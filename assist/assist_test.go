package assist

import (
	"slices"
	"strconv"
	"strings"
	"testing"

	"apodixis/api"
	"apodixis/frame"
	"apodixis/layout"
	"apodixis/syntax"
)

// database returns the database of a text.
func database(t *testing.T, s string) api.Database {
	t.Helper()
	l, _, e := layout.Parse(strings.Fields(s))
	db, at, f := frame.Database(l)
	if e != api.OK || f != api.OK {
		t.Fatalf("%q: %d, %d at %d", s, e, f, at)
	}
	return db
}

// start returns an assistant for the theorem th that stands behind logic and further statements.
func start(t *testing.T, s string) *Assistant {
	t.Helper()
	db := database(t, logic+s)
	n := frame.Find(db, "th")
	a, e := New(db, n, db.Frames[n])
	if e != api.OK {
		t.Fatalf("%q: %d", s, e)
	}
	return a
}

// tree returns the tree that "wi(wph,wn(&wff.0))" writes.
func tree(s string) api.Tree {
	t, _ := readTree(s)
	return t
}

func readTree(s string) (api.Tree, string) {
	n := strings.IndexAny(s+")", "(,)")
	t, s := api.Tree{Label: s[:n]}, s[n:]
	if !strings.HasPrefix(s, "(") {
		return t, s
	}
	for s[0] != ')' {
		k, rest := readTree(s[1:])
		t.Kids, s = append(t.Kids, k), rest
	}
	return t, s[1:]
}

// moved makes the moves of a text, such as "apply 0 mp; have wi(wph,wph)", and returns the last one's error; all others have to be right.
func moved(t *testing.T, a *Assistant, moves string) api.Errno {
	t.Helper()
	e := api.OK
	for _, move := range strings.Split(moves, ";") {
		if e != api.OK {
			t.Fatalf("%q: %d ahead of%s", moves, e, move)
		}
		l := append(strings.Fields(move), "", "", "")
		goal, _ := strconv.Atoi(l[1])
		step, _ := strconv.Atoi(l[2])
		switch l[0] {
		case "apply":
			e = a.Apply(goal, l[2])
		case "assume":
			e = a.Assume(goal, l[2])
		case "reuse":
			e = a.Reuse(goal, step)
		case "have":
			_, e = a.Have(tree(l[1]))
		case "set":
			e = a.Set(l[1], tree(l[2]))
		}
	}
	return e
}

// P22.1: what moves lead to, and the errors of the last one, which changes nothing then.
func TestMoves(t *testing.T) {
	const id = "th $p |- ( ph -> ph ) $= ? $."
	const premises = "${ e1 $e |- ( ph -> ps ) $. e2 $e |- ps $. th $p |- ( ph -> ps ) $= ? $. $}"
	const apart = "${ $d x ph $. $d y ps $. th $p |- ( ph -> A. x ph ) $= ? $. $}"
	for _, x := range []struct {
		s, moves string
		e        api.Errno
		want     string
	}{
		{id, "", api.OK, "wi(wph,wph) ?"},
		// Apply
		{id, "apply 0 mp", api.OK, "wi(wph,wph) mp 1 2; &wff.0 ?; wi(&wff.0,wi(wph,wph)) ?"},
		{id, "apply 0 mp; apply 2 a1", api.OK, "wi(wph,wph) mp 1 2; wph ?; wi(wph,wi(wph,wph)) a1"},
		{id, "apply 0 mp; apply 1 mp", api.OK, "wi(wph,wph) mp 1 2; &wff.0 mp 3 4; wi(&wff.0,wi(wph,wph)) ?; &wff.2 ?; wi(&wff.2,&wff.0) ?"},
		{id, "apply 0 mp; apply 2 mp; apply 4 a2", api.OK, "wi(wph,wph) mp 1 2; wi(wph,&wff.5) ?; wi(wi(wph,&wff.5),wi(wph,wph)) mp 3 4; wi(wph,wi(&wff.5,wph)) ?; wi(wi(wph,wi(&wff.5,wph)),wi(wi(wph,&wff.5),wi(wph,wph))) a2"},
		{id, "apply 1 no", ErrGoal, "wi(wph,wph) ?"},
		{id, "apply -1 a1", ErrGoal, "wi(wph,wph) ?"},
		{id, "apply 0 any; apply 0 any", ErrGoal, "wi(wph,wph) any"},
		{id, "apply 0 no", api.ErrNone, "wi(wph,wph) ?"},
		{id, "apply 0 ", api.ErrNone, "wi(wph,wph) ?"},
		{id, "apply 0 th", api.ErrNone, "wi(wph,wph) ?"},
		{id + " late $a |- ph $.", "apply 0 late", api.ErrNone, "wi(wph,wph) ?"},
		{id, "apply 0 wph", api.ErrNone, "wi(wph,wph) ?"},
		{premises, "apply 0 e1", api.ErrNone, "wi(wph,wps) ?"},
		{id, "apply 0 wi", api.ErrType, "wi(wph,wph) ?"},
		{id, "apply 0 wt", api.ErrType, "wi(wph,wph) ?"},
		{id, "apply 0 other", api.ErrType, "wi(wph,wph) ?"},
		{id, "apply 0 bad", syntax.ErrParse, "wi(wph,wph) ?"},
		{id, "apply 0 amb", syntax.ErrAmbiguous, "wi(wph,wph) ?"},
		{id, "apply 0 a1", ErrUnify, "wi(wph,wph) ?"},
		{"th $p |- ( ph -> ( ps -> ch ) ) $= ? $.", "apply 0 a1", ErrUnify, "wi(wph,wi(wps,wch)) ?"},
		{id, "apply 0 mp; apply 1 mp; apply 2 a1; have wi(&wff.2,wi(wps,wi(wph,&wff.2))); apply 5 a1", ErrUnify, "wi(wph,wph) mp 1 2; wph mp 3 4; wi(wph,wi(wph,wph)) a1; &wff.2 ?; wi(&wff.2,wph) ?; wi(&wff.2,wi(wps,wi(wph,&wff.2))) ?"},
		// Assume
		{premises, "assume 0 e1", api.OK, "wi(wph,wps) e1"},
		{premises, "apply 0 mp; assume 1 e2", api.OK, "wi(wph,wps) mp 1 2; wps e2; wi(wps,wi(wph,wps)) ?"},
		{premises, "assume 0 e2", ErrUnify, "wi(wph,wps) ?"},
		{premises, "assume 1 e2", ErrGoal, "wi(wph,wps) ?"},
		{premises, "assume 0 e1; assume 0 e1", ErrGoal, "wi(wph,wps) e1"},
		{premises, "assume 1 no", ErrGoal, "wi(wph,wps) ?"},
		{premises, "assume 0 wph", api.ErrNone, "wi(wph,wps) ?"},
		{premises, "assume 0 a1", api.ErrNone, "wi(wph,wps) ?"},
		{premises, "assume 0 ", api.ErrNone, "wi(wph,wps) ?"},
		{id, "assume 0 g", api.ErrNone, "wi(wph,wph) ?"},
		// Reuse
		{id, "have wi(wph,wph); reuse 0 1", api.OK, "wi(wph,wph) = 1; wi(wph,wph) ?"},
		{id, "have wi(wph,wph); reuse 1 0", api.OK, "wi(wph,wph) ?; wi(wph,wph) = 0"},
		{id, "apply 0 mp; have wps; reuse 1 3", api.OK, "wi(wph,wph) mp 1 2; wps = 3; wi(wps,wi(wph,wph)) ?; wps ?"},
		{id, "have wps; reuse 0 1", ErrUnify, "wi(wph,wph) ?; wps ?"},
		{id, "reuse 1 0", ErrGoal, "wi(wph,wph) ?"},
		{id, "reuse 0 1", api.ErrNone, "wi(wph,wph) ?"},
		{id, "reuse 0 -1", api.ErrNone, "wi(wph,wph) ?"},
		{id, "reuse 0 0", api.ErrOrder, "wi(wph,wph) ?"},
		{id, "have wph; have wph; reuse 1 2; reuse 2 1", api.ErrOrder, "wi(wph,wph) ?; wph = 2; wph ?"},
		{id, "apply 0 mp; reuse 1 0", api.ErrOrder, "wi(wph,wph) mp 1 2; &wff.0 ?; wi(&wff.0,wi(wph,wph)) ?"},
		{id, "apply 0 mp; reuse 1 2", ErrUnify, "wi(wph,wph) mp 1 2; &wff.0 ?; wi(&wff.0,wi(wph,wph)) ?"},
		// Have
		{id, "apply 0 mp; have wn(&wff.0)", api.OK, "wi(wph,wph) mp 1 2; &wff.0 ?; wi(&wff.0,wi(wph,wph)) ?; wn(&wff.0) ?"},
		{id, "have wn(no)", api.ErrForm, "wi(wph,wph) ?"},
		{id, "have wn(vx)", api.ErrType, "wi(wph,wph) ?"},
		{id, "have vx", api.ErrType, "wi(wph,wph) ?"},
		{id, "have &set.0", api.ErrType, "wi(wph,wph) ?"},
		{id, "have &wff.0", api.ErrScope, "wi(wph,wph) ?"},
		{id, "apply 0 mp; have wi(&wff.0,&wff.1)", api.ErrScope, "wi(wph,wph) mp 1 2; &wff.0 ?; wi(&wff.0,wi(wph,wph)) ?"},
		// Set
		{id, "apply 0 mp; set &wff.0 wn(wps)", api.OK, "wi(wph,wph) mp 1 2; wn(wps) ?; wi(wn(wps),wi(wph,wph)) ?"},
		{id, "apply 0 mp; apply 1 mp; set &wff.0 wn(&wff.2)", api.OK, "wi(wph,wph) mp 1 2; wn(&wff.2) mp 3 4; wi(wn(&wff.2),wi(wph,wph)) ?; &wff.2 ?; wi(&wff.2,wn(&wff.2)) ?"},
		{id, "set &wff.0 wph", api.ErrNone, "wi(wph,wph) ?"},
		{id, "set wph no", api.ErrNone, "wi(wph,wph) ?"},
		{id, "apply 0 mp; set &wff.1 no", api.ErrNone, "wi(wph,wph) mp 1 2; &wff.0 ?; wi(&wff.0,wi(wph,wph)) ?"},
		{id, "apply 0 mp; set &wff.0 no", api.ErrForm, "wi(wph,wph) mp 1 2; &wff.0 ?; wi(&wff.0,wi(wph,wph)) ?"},
		{id, "apply 0 mp; set &wff.0 wn(&set.0)", api.ErrType, "wi(wph,wph) mp 1 2; &wff.0 ?; wi(&wff.0,wi(wph,wph)) ?"},
		{id, "apply 0 mp; set &wff.0 &set.0", api.ErrType, "wi(wph,wph) mp 1 2; &wff.0 ?; wi(&wff.0,wi(wph,wph)) ?"},
		{id, "apply 0 mp; set &wff.0 vx", api.ErrType, "wi(wph,wph) mp 1 2; &wff.0 ?; wi(&wff.0,wi(wph,wph)) ?"},
		{id, "apply 0 mp; set &wff.0 wi(&wff.0,&wff.3)", api.ErrScope, "wi(wph,wph) mp 1 2; &wff.0 ?; wi(&wff.0,wi(wph,wph)) ?"},
		{id, "apply 0 mp; set &wff.0 wn(&wff.0)", ErrUnify, "wi(wph,wph) mp 1 2; &wff.0 ?; wi(&wff.0,wi(wph,wph)) ?"},
		{id, "apply 0 mp; set &wff.0 &wff.0", ErrUnify, "wi(wph,wph) mp 1 2; &wff.0 ?; wi(&wff.0,wi(wph,wph)) ?"},
		// disjointness
		{apart, "apply 0 a5", api.OK, "wi(wph,wal(wph,vx)) a5 | vx wph"},
		{"th $p |- ( ph -> A. x ph ) $= ? $.", "apply 0 a5", api.ErrApart, "wi(wph,wal(wph,vx)) ?"},
		{"$d x y $. th $p |- ( x = y -> A. x x = y ) $= ? $.", "apply 0 a5", api.ErrApart, "wi(weq(vx,vy),wal(weq(vx,vy),vx)) ?"},
		{"$d z x $. th $p |- ( x = y -> A. z x = y ) $= ? $.", "apply 0 a5", api.ErrApart, "wi(weq(vx,vy),wal(weq(vx,vy),vz)) ?"},
		{"$d z x y $. th $p |- ( x = y -> A. z x = y ) $= ? $.", "apply 0 a5", api.OK, "wi(weq(vx,vy),wal(weq(vx,vy),vz)) a5 | vx vz | vy vz"},
		{apart, "apply 0 syl", api.OK, "wi(wph,wal(wph,vx)) syl 1 2; wi(wph,&wff.1) ?; wal(wi(&wff.1,wal(wph,vx)),&set.3) ? | &set.3 wph | &wff.1 wph"},
		{apart, "apply 0 syl; set &set.3 vx", api.OK, "wi(wph,wal(wph,vx)) syl 1 2; wi(wph,&wff.1) ?; wal(wi(&wff.1,wal(wph,vx)),vx) ? | &wff.1 wph | vx wph"},
		{apart, "apply 0 syl; set &set.3 vy", api.ErrApart, "wi(wph,wal(wph,vx)) syl 1 2; wi(wph,&wff.1) ?; wal(wi(&wff.1,wal(wph,vx)),&set.3) ? | &set.3 wph | &wff.1 wph"},
		{apart, "apply 0 syl; set &wff.1 wph", api.ErrApart, "wi(wph,wal(wph,vx)) syl 1 2; wi(wph,&wff.1) ?; wal(wi(&wff.1,wal(wph,vx)),&set.3) ? | &set.3 wph | &wff.1 wph"},
		{apart, "apply 0 syl; set &wff.1 weq(&set.3,vx)", api.OK, "wi(wph,wal(wph,vx)) syl 1 2; wi(wph,weq(&set.3,vx)) ?; wal(wi(weq(&set.3,vx),wal(wph,vx)),&set.3) ? | &set.3 wph | vx wph"},
		{apart, "apply 0 syl; apply 1 a5", api.ErrApart, "wi(wph,wal(wph,vx)) syl 1 2; wi(wph,&wff.1) ?; wal(wi(&wff.1,wal(wph,vx)),&set.3) ? | &set.3 wph | &wff.1 wph"},
		{apart, "apply 0 syl; have wi(wph,wph); reuse 1 3", api.ErrApart, "wi(wph,wal(wph,vx)) syl 1 2; wi(wph,&wff.1) ?; wal(wi(&wff.1,wal(wph,vx)),&set.3) ?; wi(wph,wph) ? | &set.3 wph | &wff.1 wph"},
		{"${ $d x ph $. e1 $e |- ( ph -> ph ) $. th $p |- ( ph -> A. x ph ) $= ? $. $}", "apply 0 syl; assume 1 e1", api.ErrApart, "wi(wph,wal(wph,vx)) syl 1 2; wi(wph,&wff.1) ?; wal(wi(&wff.1,wal(wph,vx)),&set.3) ? | &set.3 wph | &wff.1 wph"},
		{"th $p |- T. $= ? $.", "apply 0 mp; apply 1 a5", api.OK, "tru mp 1 2; wi(&wff.2,wal(&wff.2,&set.3)) a5; wi(wi(&wff.2,wal(&wff.2,&set.3)),tru) ? | &set.3 &wff.2"},
		{"th $p |- T. $= ? $.", "apply 0 mp; apply 1 a5; set &wff.2 weq(&set.3,vx)", api.OK, "tru mp 1 2; wi(weq(&set.3,vx),wal(weq(&set.3,vx),&set.3)) a5; wi(wi(weq(&set.3,vx),wal(weq(&set.3,vx),&set.3)),tru) ? | &set.3 &set.3 | &set.3 vx"},
		{"$d x y $. th $p |- T. $= ? $.", "apply 0 mp; apply 1 a6", api.OK, "tru mp 1 2; wi(wal(weq(&set.3,&set.4),&set.3),&wff.2) a6; wi(wi(wal(weq(&set.3,&set.4),&set.3),&wff.2),tru) ? | &set.3 &set.4"},
		{"$d x y $. th $p |- T. $= ? $.", "apply 0 mp; apply 1 a6; set &set.3 &set.4; set &set.4 vx", api.ErrApart, "tru mp 1 2; wi(wal(weq(&set.4,&set.4),&set.4),&wff.2) a6; wi(wi(wal(weq(&set.4,&set.4),&set.4),&wff.2),tru) ? | &set.4 &set.4"},
	} {
		a := start(t, x.s)
		e := moved(t, a, x.moves)
		if got := text(a.View()); e != x.e || got != x.want {
			t.Errorf("%q behind %q: %d, %s\nwant %d, %s", x.s, x.moves, e, got, x.e, x.want)
		}
		count := len(strings.Split(x.moves, ";"))
		if x.e != api.OK || x.moves == "" {
			count--
		}
		if a.Version() != count {
			t.Errorf("%q behind %q: the version %d, want %d", x.s, x.moves, a.Version(), count)
		}
	}
}

// P22.1: the errors of New, in their order.
func TestNew(t *testing.T) {
	db := database(t, logic+"${ e1 $e |- ( ph -> ps ) $. th $p |- ( ph -> ps ) $= ? $. $} last $a |- ph $.")
	n := frame.Find(db, "th")
	th := db.Frames[n]
	broken := db
	broken.Frames = append(slices.Clone(db.Frames[:n+1]), api.Frame{}, api.Frame{})
	with := func(change func(f *api.Frame)) api.Frame {
		f := th
		f.Hyps, f.Text = slices.Clone(f.Hyps), slices.Clone(f.Text)
		change(&f)
		return f
	}
	premise := func(text string) func(f *api.Frame) {
		return func(f *api.Frame) { f.Hyps[2].Text = strings.Fields(text) }
	}
	for name, x := range map[string]struct {
		db   api.Database
		n    int
		f    api.Frame
		want api.Errno
	}{
		"right":                         {db, n, th, api.OK},
		"wrong frames behind":           {broken, n, th, api.OK},
		"at the end":                    {db, n + 2, with(func(f *api.Frame) { f.Label, f.Hyps[2].Label = "new", "e9" }), api.OK},
		"below 0":                       {api.Database{}, -1, api.Frame{}, api.ErrRange},
		"behind the end":                {api.Database{}, 1, api.Frame{}, api.ErrRange},
		"far behind":                    {db, 1 << 62, th, api.ErrRange},
		"nothing":                       {api.Database{}, 0, api.Frame{}, api.ErrForm},
		"no label":                      {db, n, with(func(f *api.Frame) { f.Label = "" }), api.ErrForm},
		"a label that is there":         {db, n, with(func(f *api.Frame) { f.Label = "mp" }), api.ErrTwice},
		"its label ahead":               {db, n + 1, th, api.ErrTwice},
		"an axiom with a proof":         {db, n, with(func(f *api.Frame) { f.Theorem, f.Proof = false, []string{"$"} }), api.OK},
		"no proof":                      {db, n, with(func(f *api.Frame) { f.Proof = nil }), api.OK},
		"an essential one that is late": {db, n, with(func(f *api.Frame) { f.Hyps[1], f.Hyps[2] = f.Hyps[2], f.Hyps[1] }), api.ErrState},
		"a floating one missing":        {db, n, with(func(f *api.Frame) { f.Dummies = nil }), api.ErrState},
		"of syntax":                     {db, n, with(func(f *api.Frame) { f.Text[0] = "wff" }), api.ErrType},
		"a premise of syntax":           {db, n, with(premise("wff -.")), api.ErrType},
		"a premise without a tree":      {db, n, with(premise("|- -.")), syntax.ErrParse},
		"a premise with two trees":      {db, n, with(func(f *api.Frame) { premise("|- F.")(f); f.Text = strings.Fields("|- ph ps") }), syntax.ErrAmbiguous},
		"a formula without a tree":      {db, n, with(func(f *api.Frame) { f.Text = strings.Fields("|- ph ps") }), syntax.ErrParse},
		"a formula with two trees":      {db, n, with(func(f *api.Frame) { f.Text = strings.Fields("|- ( F. -> ( ph -> ps ) )") }), syntax.ErrAmbiguous},
		"a premise ahead of it":         {db, n, with(func(f *api.Frame) { premise("|- -.")(f); f.Text = strings.Fields("|- ( ph -> ( F. -> ps ) )") }), syntax.ErrParse},
	} {
		a, e := New(x.db, x.n, x.f)
		if e != x.want || (a != nil) != (e == api.OK) {
			t.Errorf("%s: %v, %d, want %d", name, a, e, x.want)
		}
		if e != api.OK {
			continue
		}
		got, number := a.Theorem()
		x.f.Theorem, x.f.Proof = true, []string{"?"}
		want := api.Database{Constants: db.Constants, Variables: db.Variables, Frames: append(slices.Clone(db.Frames[:x.n]), x.f)}
		if number != x.n || !frame.Equal(got, want) {
			t.Errorf("%s: Theorem returns %v, %d", name, got.Frames[number], number)
		}
		if v := a.View(); a.Version() != 0 || text(v) != "wi(wph,wps) ?" || a.Undo() || a.Redo() {
			t.Errorf("%s: the version %d, %s", name, a.Version(), text(v))
		}
	}
	x := database(t, "$c |- $. $v p $. wp $f |- p $. a $a |- p $.")
	if a, e := New(x, 0, x.Frames[0]); a != nil || e != api.ErrType {
		t.Errorf("a variable of the turnstile: %d", e)
	}
	x = database(t, "$c |- T. $. a $a |- T. $.")
	if a, e := New(x, 0, x.Frames[0]); a != nil || e != api.ErrType {
		t.Errorf("no formulas: %d", e)
	}
	x = database(t, "$c |- wff T. $. $v p $. wp $f wff p $. a $a |- p $. th $p |- p $= ? $.")
	if a, e := New(x, 1, x.Frames[1]); e != api.OK || a.Apply(0, "a") != api.OK {
		t.Errorf("no syntax axioms: %d", e)
	}
}

// P22.1: 1000 steps, and one more.
func TestFull(t *testing.T) {
	hyps, args := "", ""
	for n := range 36 {
		hyps += "h" + strconv.Itoa(n) + " $e |- T. $. "
		args += " " + strconv.Itoa(n+1)
	}
	a := start(t, "${ "+hyps+" many $a |- T. $. $} ${ m1 $e |- T. $. one $a |- T. $. $} ${ m2 $e |- T. $. m3 $e |- T. $. two $a |- T. $. $} th $p |- T. $= ? $.")
	for n := range 27 { // 1 + 27 * 36 = 973
		if e := a.Apply(n, "many"); e != api.OK {
			t.Fatal(e)
		}
	}
	if v := a.View(); len(v.Steps) != 973 || !strings.HasPrefix(text(v), "tru many"+args+"; ") {
		t.Fatal(len(v.Steps))
	}
	for n := 973; n < 1000; n++ {
		if number, e := a.Have(tree("wph")); e != api.OK || number != n {
			t.Fatalf("%d, %d", number, e)
		}
		if full := a.Apply(27, "many"); full != api.ErrFull {
			t.Fatalf("%d steps: %d", n, full)
		}
	}
	for move, want := range map[string]api.Errno{"have wph": api.ErrFull, "have vx": api.ErrType, "have &wff.0": api.ErrScope, "apply 27 one": api.ErrFull, "apply 999 one": api.ErrFull, "apply 27 bad": syntax.ErrParse, "apply 999 tt": ErrUnify, "apply 0 one": ErrGoal} {
		if e := moved(t, a, move); e != want {
			t.Errorf("1000 steps, %s: %d, want %d", move, e, want)
		}
	}
	if l, e := a.Applicable(27); e != api.OK || !slices.Equal(l, []string{"tt", "any"}) {
		t.Errorf("%q, %d", l, e)
	}
	a.Undo()
	if e := a.Apply(27, "two"); e != api.ErrFull {
		t.Errorf("999 steps: %d", e)
	}
	if e := a.Apply(27, "one"); e != api.OK || len(a.View().Steps) != 1000 {
		t.Errorf("999 steps: %d", e)
	}
}

// chain returns a tree of n nodes with one kid each, down to the last one.
func chain(n int, last string) api.Tree {
	t := api.Tree{Label: last}
	for range n - 1 {
		t = api.Tree{Label: "wn", Kids: []api.Tree{t}}
	}
	return t
}

// wide returns a tree of n nodes whose leaves have a label.
func wide(n int, label string) api.Tree {
	if n == 1 {
		return api.Tree{Label: label}
	}
	if n%2 == 0 {
		return api.Tree{Label: "wn", Kids: []api.Tree{wide(n-1, label)}}
	}
	half := (n - 1) / 2
	return api.Tree{Label: "wi", Kids: []api.Tree{wide(half, label), wide(n-1-half, label)}}
}

// P22.1: trees as large and as deep as may be, and the errors of unification and of the steps.
func TestLimits(t *testing.T) {
	const s = "${ n1 $e |- -. ph $. not $a |- ph $. $} ${ n2 $e |- ( ph -> ph ) $. twice $a |- ph $. $} ${ n3 $e |- ( ph -> -. ps ) $. n4 $e |- ph $. n5 $e |- ps $. n6 $e |- ( ps -> ps ) $. both $a |- T. $. $} th $p |- T. $= ? $."
	for name, x := range map[string]struct {
		t    api.Tree
		want api.Errno
	}{
		"100 deep": {chain(100, "wph"), api.OK}, "101 deep": {chain(101, "wph"), api.ErrDepth}, "4000 nodes": {wide(4000, "wph"), api.OK}, "4001 nodes": {wide(4001, "wph"), api.ErrLarge},
		"very deep": {chain(300000, "wph"), api.ErrLarge}, "101 deep, and wrong": {chain(101, "no"), api.ErrDepth}, "4001 nodes of another sort": {wide(4001, "vx"), api.ErrLarge},
	} {
		a := start(t, s)
		if n, e := a.Have(x.t); e != x.want || n != 1 && e == api.OK || n != 0 && e != api.OK {
			t.Errorf("%s: Have: %d, %d, want %d", name, n, e, x.want)
		}
		moved(t, a, "apply 0 any") // the step 0 stays as it is
		a.Undo()
		if e := moved(t, a, "apply 0 mp"); e != api.OK {
			t.Fatal(e)
		}
		if e := a.Set("&wff.1", x.t); e != api.ErrNone {
			t.Errorf("%s: Set of nothing: %d", name, e)
		}
	}
	// A step that is applied to: the new step is a node larger, or twice as large.
	for name, x := range map[string]struct {
		t    api.Tree
		by   string
		want api.Errno
	}{
		"99 deep": {chain(99, "wph"), "not", api.OK}, "100 deep": {chain(100, "wph"), "not", api.ErrDepth}, "3999 nodes": {wide(3999, "wph"), "not", api.OK}, "4000 nodes": {wide(4000, "wph"), "not", api.ErrLarge},
		"1999 nodes": {wide(1999, "wph"), "twice", api.OK}, "2000 nodes": {wide(2000, "wph"), "twice", api.ErrLarge}, "by itself": {chain(100, "wph"), "any", api.OK},
	} {
		a := start(t, s)
		if _, e := a.Have(x.t); e != api.OK {
			t.Fatal(e)
		}
		before := text(a.View())
		l, e := a.Applicable(1)
		if e != api.OK || slices.Contains(l, x.by) != (x.want == api.OK) {
			t.Errorf("%s: Applicable: %q, %d", name, l, e)
		}
		if e := a.Apply(1, x.by); e != x.want || e != api.OK && text(a.View()) != before {
			t.Errorf("%s: Apply of %s: %d, want %d", name, x.by, e, x.want)
		}
	}
	// Steps are looked at one by one: the first one that fails tells its error.
	for name, x := range map[string]struct {
		label string
		t     api.Tree
		want  api.Errno
	}{
		"all are right": {"&wff.1", wide(1000, "wph"), api.OK}, "too deep": {"&wff.1", chain(100, "wph"), api.ErrDepth}, "too deep, and then too large": {"&wff.1", deepAndWide(), api.ErrDepth}, "too large": {"&wff.1", wide(2500, "wph"), api.ErrLarge},
	} {
		a := start(t, s)
		moved(t, a, "apply 0 both")
		if e := a.Set(x.label, x.t); e != x.want {
			t.Errorf("%s: Set: %d, want %d", name, e, x.want)
		}
	}
	// Values of work variables.
	for name, x := range map[string]struct {
		t    api.Tree
		want api.Errno
	}{
		"large values": {wide(1332, "wph"), api.OK}, "a step that is too large": {wide(1333, "wph"), api.ErrLarge}, "a value that is too large": {wide(2000, "wph"), api.ErrLarge}, "deep values": {chain(98, "wph"), api.OK}, "a step that is too deep": {chain(99, "wph"), api.ErrDepth},
	} {
		a := start(t, s)
		moved(t, a, "apply 0 both; have wi(&wff.0,&wff.1)")
		n, e := a.Have(api.Tree{Label: "wi", Kids: []api.Tree{tree("wi(&wff.1,&wff.1)"), x.t}})
		if f := a.Reuse(5, n); e != api.OK || f != x.want {
			t.Errorf("%s: Reuse: %d, %d, want %d", name, e, f, x.want)
		}
	}
}

// deepAndWide returns a tree of 2100 nodes and the depth 100.
func deepAndWide() api.Tree {
	return api.Tree{Label: "wi", Kids: []api.Tree{chain(99, "wph"), wide(2000, "wph")}}
}
