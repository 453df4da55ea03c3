package deduct

import (
	"math/rand"
	"slices"
	"strings"
	"testing"

	"apodixis/api"
	"apodixis/carry"
	"apodixis/compress"
	"apodixis/frame"
	"apodixis/graph"
	"apodixis/layout"
	"apodixis/natural"
	"apodixis/stream"
	"apodixis/syntax"
	"apodixis/verify"
)

// A logic with all that there is.
const (
	symbols = `$c wff |- set class ( ) -> -. /\ \/ F. T. A. E. = e. no $. $v p q r x y z C $. wp $f wff p $. wq $f wff q $. wr $f wff r $. vx $f set x $. vy $f set y $. vz $f set z $. cC $f class C $. `
	wffs    = `wi $a wff ( p -> q ) $. wn $a wff -. p $. wa $a wff ( p /\ q ) $. wo $a wff ( p \/ q ) $. wf $a wff F. $. wt $a wff T. $. wal $a wff A. x p $. wex $a wff E. x p $. weq $a wff x = y $. wel $a wff x e. y $. wcl $a wff no C $. cv $a class x $. `
	modus   = `${ m $e |- p $. j $e |- ( p -> q ) $. mp $a |- q $. $} `
	rule    = `${ g $e |- p $. gen $a |- A. x p $. $} `
	axioms  = `a1 $a |- ( p -> ( q -> p ) ) $. a2 $a |- ( ( p -> ( q -> r ) ) -> ( ( p -> q ) -> ( p -> r ) ) ) $. a3 $a |- ( ( -. p -> -. q ) -> ( q -> p ) ) $. `
	quants  = `a4 $a |- ( A. x ( p -> q ) -> ( A. x p -> A. x q ) ) $. ${ $d p x $. a5 $a |- ( p -> A. x p ) $. $} sp $a |- ( A. x p -> p ) $. `
	equals  = `id $a |- x = x $. eu $a |- ( x = y -> ( x = z -> y = z ) ) $. `
	whole   = symbols + wffs + modus + rule + axioms + quants + equals
)

// full is the logic of whole.
func full() carry.Logic {
	return carry.Logic{
		Set: "set", Imp: "wi", Not: "wn", And: "wa", Or: "wo", False: "wf", All: "wal", Some: "wex", Eq: "weq",
		Mp: "mp", Gen: "gen", Simp: "a1", Frege: "a2", Transp: "a3", Dist: "a4", Vacuous: "a5", Spec: "sp", Refl: "id", Eucl: "eu",
	}
}

// A logic of terms, whose syntax axioms have their arguments in other orders than their hypotheses.
const terms = `$c wff |- term ( ) -> = 0 S + P R $. $v p q s t u $. wp $f wff p $. ts $f term s $. wq $f wff q $. tt $f term t $. tu $f term u $. ` +
	`zero $a term 0 $. suc $a term S s $. plus $a term ( t + s ) $. weq $a wff s = t $. wi $a wff ( q -> p ) $. wP $a wff P s $. wR $a wff R u s t $. ` +
	`${ j $e |- ( p -> q ) $. m $e |- p $. mp $a |- q $. $} b1 $a |- ( q -> ( p -> q ) ) $. id $a |- s = s $. eu $a |- ( s = t -> ( s = u -> t = u ) ) $. `

// database returns the database of a text.
func database(t *testing.T, s string) api.Database {
	t.Helper()
	l, at, e := layout.Parse(strings.Fields(s))
	if e != api.OK {
		t.Fatalf("%q: %d at %d", s[max(0, len(s)-300):], e, at)
	}
	db, at, e := frame.Database(l)
	if e != api.OK {
		t.Fatalf("%q: %d at %q", s[max(0, len(s)-300):], e, l[at].Label)
	}
	return db
}

func isEmpty(t api.Tree) bool { return t.Label == "" && len(t.Kids) == 0 }

// P27.1, P27.4: trees by hand.
func TestTree(t *testing.T) {
	db := database(t, whole+`${ $d p x $. $d p z $. $d q y $. $d r x y z $. th $p |- ( p -> ( q -> r ) ) $= ? $. $} pl $p |- ( p -> q ) $= ? $.`)
	plain := full()
	plain.Not, plain.And, plain.False, plain.Some, plain.Eq, plain.Refl, plain.Eucl, plain.Transp = "", "", "", "", "", "", "", ""
	for _, x := range []struct {
		frame, formula string
		l              carry.Logic
		want           string // or empty
	}{
		{"th", "r", full(), "wr"},
		{"th", "p $( y $)", full(), "wp"},
		{"th", "q $( x z $)", full(), "wq"},
		{"th", "q $( z x $)", full(), ""},
		{"th", "q", full(), ""},
		{"th", "r $( x $)", full(), ""},
		{"th", "s", full(), ""},
		{"pl", "r", full(), ""},
		{"pl", "r $( x y z $)", full(), "wr"},
		{"th", "wt", full(), "wt"},
		{"th", "wt $( x $)", full(), ""},
		{"th", "wf", full(), ""}, // False has another translation
		{"th", "wf", plain, "wf"},
		{"th", "wp", full(), ""},
		{"th", "x", full(), ""},
		{"th", "cv $( x $)", full(), ""},
		{"th", "a1", full(), ""},
		{"th", "wi", full(), ""},
		{"th", "wcl $( x $)", full(), ""},
		{"th", "wel $( x y $)", full(), "wel(vx,vy)"},
		{"th", "wel $( x $)", full(), ""},
		{"th", "wel $( x y z $)", full(), ""},
		{"th", "wel $( x a $)", full(), ""},
		{"th", "wel $( x vy $)", full(), ""},
		{"th", "wel $( x cv $( y $) $)", full(), ""},
		{"th", "weq $( x y $)", full(), ""},
		{"th", "weq $( x y $)", plain, "weq(vx,vy)"},
		{"th", "$= x y", full(), "weq(vx,vy)"},
		{"th", "$= x p", full(), ""},
		{"th", "$= x C", full(), ""},
		{"th", "$= x y", plain, ""},
		{"th", "$F", full(), "wf"},
		{"th", "$F", plain, ""},
		{"th", "$> r $F", full(), "wn(wr)"},
		{"th", "$> r $F", plain, ""},
		{"th", "$> $F r", full(), "wi(wf,wr)"},
		{"th", "$> $> r $F $F", full(), "wn(wn(wr))"},
		{"th", "$> r wf", plain, "wi(wr,wf)"},
		{"th", "$> r $> q $( x z $) r", full(), "wi(wr,wi(wq,wr))"},
		{"th", "$& r $| r wt", full(), "wa(wr,wo(wr,wt))"},
		{"th", "$& r r", plain, ""},
		{"th", "$A v r", full(), "wal(wr,vx)"},
		{"th", "$E v r", full(), "wex(wr,vx)"},
		{"th", "$E v r", plain, ""},
		{"th", "$A v p $( v $)", full(), ""}, // x is the first variable, and p has y
		{"th", "$A v $> p $( y $) wel $( v y $)", full(), "wal(wi(wp,wel(vx,vy)),vx)"},
		{"th", "$A v q $( v z $)", full(), "wal(wq,vx)"},
		{"th", "$A v q $( x v $)", full(), ""}, // y is the first one
		{"th", "$A v wel $( v x $)", full(), "wal(wel(vy,vx),vy)"},
		{"th", "$A v $A w wel $( v w $)", full(), "wal(wal(wel(vx,vy),vy),vx)"},
		{"th", "$A v $A w wel $( w w $)", full(), "wal(wal(wel(vx,vx),vx),vx)"},
		{"th", "$A v $& $A w wel $( w w $) $E w wel $( v w $)", full(), "wal(wa(wal(wel(vx,vx),vx),wex(wel(vx,vy),vy)),vx)"},
		{"th", "$A u $A v $A w $& wel $( u v $) wel $( v w $)", full(), "wal(wal(wal(wa(wel(vx,vy),wel(vy,vz)),vz),vy),vx)"},
		{"th", "$A u $A v $A w $A s $& wel $( u v $) wel $( w s $)", full(), ""}, // there are three variables
		{"th", "$A v $& wel $( x y $) wel $( z v $)", full(), ""},
		{"pl", "$A v p $( v y z $)", full(), "wal(wp,vx)"},
		{"pl", "$A v $A w p $( v w z $)", full(), "wal(wal(wp,vy),vx)"},
		{"pl", "$A v $A w p $( w v z $)", full(), ""},
	} {
		i := frame.Find(db, x.frame)
		f := parsed(t, x.formula)
		tree, e := Tree(db, x.l, i, f)
		want := api.OK
		if x.want == "" {
			want = ErrFragment
		}
		got := ""
		if e == api.OK {
			got, _ = syntax.Write(tree)
		}
		if e != want || got != x.want || isEmpty(tree) != (e != api.OK) {
			t.Errorf("%s: %q: %q, %d, want %q", x.frame, x.formula, got, e, x.want)
		}
		if e == api.OK {
			checkTree(t, db, x.l, i, f, tree)
		}
	}
	db = database(t, terms)
	l := carry.Logic{Set: "term", Imp: "wi", Eq: "weq", Mp: "mp"}
	for s, want := range map[string]string{
		"$> p $( s t u $) q $( s t u $)":           "wi(wq,wp)",
		"$= suc $( zero $) plus $( s t $)":         "weq(suc(zero),plus(tt,ts))",
		"wR $( s plus $( t zero $) suc $( u $) $)": "wR(plus(zero,tt),suc(tu),ts)",
		"wP $( suc $( zero $) $)":                  "wP(suc(zero))",
		"wP $( suc $)":                             "",
		"wP $( zero $( s $) $)":                    "",
		"wP $( suc $( s t $) $)":                   "",
		"wP $( s $( t $) $)":                       "",
		"wP $( wP $( s $) $)":                      "",
		"suc $( s $)":                              "",
		"$A v wP $( v $)":                          "",
	} {
		f := parsed(t, s)
		tree, e := Tree(db, l, 0, f)
		if want == "" {
			if e != ErrFragment || !isEmpty(tree) {
				t.Errorf("%q: %v, %d", s, tree, e)
			}
			continue
		}
		if got, _ := syntax.Write(tree); e != api.OK || got != want {
			t.Errorf("%q: %q, %d, want %q", s, got, e, want)
		}
		checkTree(t, db, l, 0, f, tree)
	}
}

// checkTree checks P27.4.
func checkTree(t *testing.T, db api.Database, l carry.Logic, i int, f natural.Formula, tree api.Tree) {
	t.Helper()
	formula, e := syntax.Text(db, tree)
	if e != api.OK {
		t.Fatalf("%v: %d", tree, e)
	}
	if g, e := carry.Formula(db, l, i, formula); e != api.OK || !natural.Same(f, g) {
		t.Fatalf("%v: %v, %d, want %v", tree, g, e, f)
	}
}

// P27.1: the errors of Tree and Proof ahead of their own.
func TestOrder(t *testing.T) {
	db := database(t, whole+"th $p |- ( p -> ( q -> p ) ) $= ? $. ${ e $e |- no C $. e2 $e |- ( p $. th2 $p |- ) $= ? $. $} th3 $p |- ) $= ? $. th4 $p set x $= vx $. th5 $p wff p $= wp $.")
	wrong := database(t, whole)
	wrong.Constants[0] = "$"
	p := natural.Formula{Kind: natural.Atom, Name: "p"}
	loose := natural.Formula{Kind: natural.Atom, Name: "p", Terms: []natural.Term{{}}}
	for name, x := range map[string]struct {
		db   api.Database
		l    carry.Logic
		i    int
		f    natural.Formula
		want api.Errno
	}{
		"a wrong database":     {wrong, carry.Logic{}, -1, loose, api.ErrForm},
		"a wrong logic":        {db, carry.Logic{}, -1, loose, carry.ErrLogic},
		"below 0":              {db, full(), -1, loose, api.ErrRange},
		"behind the last one":  {db, full(), len(db.Frames), loose, api.ErrRange},
		"a loose formula":      {db, full(), 0, loose, natural.ErrBound},
		"a formula of no form": {db, full(), 0, natural.Formula{}, api.ErrForm},
		"one that is too deep": {db, full(), 0, deep(101), api.ErrSize},
		"one without a tree":   {db, full(), 0, p, ErrFragment},
		"no database":          {api.Database{}, full(), 0, p, carry.ErrLogic},
		"not a settled one":    {api.Database{Variables: []string{"x"}}, full(), 0, p, api.ErrState},
	} {
		if tree, e := Tree(x.db, x.l, x.i, x.f); e != x.want || !isEmpty(tree) {
			t.Errorf("%s: Tree: %v, %d, want %d", name, tree, e, x.want)
		}
		want := x.want
		if x.i == 0 && len(x.db.Frames) > 0 {
			want = api.ErrArg
		}
		if q, e := Proof(x.db, x.l, x.i, natural.Derivation{}); e != want || len(q.Steps) > 0 {
			t.Errorf("%s: Proof: %v, %d, want %d", name, q, e, want)
		}
	}
	for name, x := range map[string]struct {
		label string
		d     natural.Derivation
		want  api.Errno
	}{
		"a premise without translation": {"th2", natural.Derivation{}, carry.ErrSyntax},
		"a formula without a tree":      {"th3", natural.Derivation{}, syntax.ErrParse},
		"a formula of a set":            {"th4", natural.Derivation{}, carry.ErrSyntax},
		"no derivation":                 {"th", natural.Derivation{}, natural.ErrRule},
		"a wrong one":                   {"th", use(0), natural.ErrAssume},
		"a fragment":                    {"th", node(natural.AndIn, p, reflexive(param("x")), reflexive(param("x"))), ErrFragment},
		"another formula":               {"th", reflexive(param("x")), ErrTarget},
		"a formula of the wff":          {"th5", reflexive(param("x")), ErrTarget},
	} {
		if q, e := Proof(db, full(), frame.Find(db, x.label), x.d); e != x.want || len(q.Steps) > 0 {
			t.Errorf("%s: %v, %d, want %d", name, q, e, x.want)
		}
	}
}

// meant returns the translation of a formula of an assertion.
func meant(t *testing.T, db api.Database, l carry.Logic, i int, s string) natural.Formula {
	t.Helper()
	f, e := carry.Formula(db, l, i, strings.Fields("wff "+s))
	if e != api.OK {
		t.Fatalf("%q: %d", s, e)
	}
	return f
}

// checkProof checks P27.5, and that both verifiers accept the proof (P8).
func checkProof(t *testing.T, db api.Database, i int, p api.Proof) {
	t.Helper()
	if _, v, e := graph.Texts(db, i, p); e != api.OK || v != (api.Verdict{}) {
		t.Fatalf("%v: %v, %d", p, v, e)
	}
	if q, e := graph.Share(p); e != api.OK || !slices.EqualFunc(p.Steps, q.Steps, func(a, b api.Step) bool { return a.Label == b.Label && slices.Equal(a.Args, b.Args) }) {
		t.Fatalf("%v is not shared: %v", p, q)
	}
	words, e := compress.Proof(db, i, p)
	if e == api.ErrSteps && len(p.Steps) > 500 {
		return // written out it has more steps than a proof may have
	}
	if e != api.OK {
		t.Fatalf("%d: %v", e, p)
	}
	if v, e := verify.Proof(db, i, words); e != api.OK || v != (api.Verdict{}) {
		t.Fatalf("%v: %v, %d", words, v, e)
	}
	changed := db
	changed.Frames = slices.Clone(db.Frames)
	changed.Frames[i].Proof = words
	l, e := frame.Statements(changed)
	text, f := layout.Print(l, 80)
	if e != api.OK || f != api.OK {
		t.Fatal(e, f)
	}
	verdicts, e := stream.Verify(text)
	at := slices.IndexFunc(verdicts, func(v stream.Named) bool { return v.Label == db.Frames[i].Label })
	if e != api.OK || at < 0 || verdicts[at].Verdict != (api.Verdict{}) {
		t.Fatalf("the second verifier: %v, %d", verdicts, e)
	}
}

// P27.1, P27.5: proofs by hand.
func TestProof(t *testing.T) {
	sx := natural.Derivation{Rule: natural.Reflexive, Term: param("x")}
	for name, x := range map[string]struct {
		s    string
		d    func(f func(s string) natural.Formula) natural.Derivation
		want string // the proof
		e    api.Errno
	}{
		"the chapter's example": {"th $p |- ( p -> p ) $= ? $.", func(f func(s string) natural.Formula) natural.Derivation {
			return node(natural.ImpliesIn, f("p"), use(0))
		}, "wp ; wi 0 0 ; wi 0 1 ; a1 0 0 ; wi 1 0 ; wi 0 4 ; wi 2 1 ; a1 0 1 ; a2 0 1 0 ; mp 5 6 7 8 ; mp 2 1 3 9", 0},
		"an equation":      {"th $p |- x = x $= ? $.", func(f func(s string) natural.Formula) natural.Derivation { return sx }, "vx ; id 0", 0},
		"a quantified one": {"th $p |- A. x x = x $= ? $.", func(f func(s string) natural.Formula) natural.Derivation { return allIn("x", sx) }, "vx ; weq 0 0 ; id 0 ; gen 1 0 2", 0},
		"another variable": {"th $p |- A. x x = x $= ? $.", func(f func(s string) natural.Formula) natural.Derivation {
			return allIn("y", reflexive(param("y")))
		}, "", ErrFragment}, // the line before is of y, but the first variable is x
		"a premise": {"${ $d p x y z $. e $e |- p $. th $p |- p $= ? $. $}", func(f func(s string) natural.Formula) natural.Derivation { return use(0) }, "e", 0},
		"a premise with a parameter": {"${ $d p x y $. e $e |- p $. th $p |- p $= ? $. $}", func(f func(s string) natural.Formula) natural.Derivation {
			return allOut(param("z"), use(0))
		}, "", ErrFragment}, // the first variable that is no parameter is x
		"a premise with the first one": {"${ $d p y z $. e $e |- p $. th $p |- p $= ? $. $}", func(f func(s string) natural.Formula) natural.Derivation {
			return allOut(param("x"), use(0))
		}, "wp ; vx ; wal 0 1 ; e ; gen 0 1 3 ; sp 0 1 ; mp 2 0 4 5", 0},
		"a premise with three": {"${ e $e |- p $. th $p |- p $= ? $. $}", func(f func(s string) natural.Formula) natural.Derivation {
			return allOut(param("z"), allOut(param("y"), allOut(param("x"), use(0))))
		}, "wp ; vz ; wal 0 1 ; vy ; wal 2 3 ; vx ; wal 4 5 ; e ; gen 0 1 7 ; gen 2 3 8 ; gen 4 5 9 ; sp 4 5 ; mp 6 4 10 11 ; sp 2 3 ; mp 4 2 12 13 ; sp 0 1 ; mp 2 0 14 15", 0},
		"two premises":        {"${ $d p x y z $. $d q x y z $. e $e |- p $. f $e |- ( p -> q ) $. th $p |- q $= ? $. $}", func(f func(s string) natural.Formula) natural.Derivation { return out(use(0), use(1)) }, "wp ; wq ; e ; f ; mp 0 1 2 3", 0},
		"False, of no syntax": {"${ $d p x y z $. e $e |- p $. f $e |- -. p $. th $p |- F. $= ? $. $}", func(f func(s string) natural.Formula) natural.Derivation { return out(use(0), use(1)) }, "", ErrFragment}, // -. p is no implication
		"contradictions": {"th $p |- ( p -> ( -. p -> q ) ) $= ? $.", func(f func(s string) natural.Formula) natural.Derivation {
			return node(natural.ImpliesIn, f("p"), node(natural.ImpliesIn, f("-. p"), node(natural.FalseOut, f("q"), out(use(0), use(1)))))
		}, "", ErrFragment},
		"Vacuous": {"${ $d p x $. th $p |- ( p -> A. x p ) $= ? $. $}", func(f func(s string) natural.Formula) natural.Derivation {
			return node(natural.ImpliesIn, f("p"), allIn("x", use(0)))
		}, "*", 0},
		"Spec": {"th $p |- ( A. x x = x -> y = y ) $= ? $.", func(f func(s string) natural.Formula) natural.Derivation {
			return node(natural.ImpliesIn, f("A. x x = x"), allOut(param("y"), use(0)))
		}, "", ErrFragment},
		"Spec of the first variable": {"th $p |- ( A. x x = x -> x = x ) $= ? $.", func(f func(s string) natural.Formula) natural.Derivation {
			return node(natural.ImpliesIn, f("A. x x = x"), allOut(param("x"), use(0)))
		}, "*", 0},
		"a symmetry": {"th $p |- ( x = y -> y = x ) $= ? $.", func(f func(s string) natural.Formula) natural.Derivation {
			return node(natural.ImpliesIn, f("x = y"), node(natural.Replace, equal(natural.Term{}, param("x")), use(0), sx))
		}, "*", 0},
		"a disjunction": {"th $p |- ( ( p \\/ q ) -> ( p \\/ q ) ) $= ? $.", func(f func(s string) natural.Formula) natural.Derivation {
			return node(natural.ImpliesIn, f("( p \\/ q )"), use(0))
		}, "*", 0},
		"a formula without a tree": {"th $p |- x = x $= ? $.", func(f func(s string) natural.Formula) natural.Derivation {
			return allOut(param("x"), allIn("a", reflexive(param("a"))))
		}, "", ErrFragment},
		"one that is left out": {"th $p |- ( p -> p ) $= ? $.", func(f func(s string) natural.Formula) natural.Derivation {
			s := natural.Formula{Kind: natural.Atom, Name: "s"}
			return out(node(natural.ImpliesIn, imp(s, s), node(natural.ImpliesIn, f("p"), use(0))), node(natural.ImpliesIn, s, use(0)))
		}, "wp ; wi 0 0 ; wi 0 1 ; a1 0 0 ; wi 1 0 ; wi 0 4 ; wi 2 1 ; a1 0 1 ; a2 0 1 0 ; mp 5 6 7 8 ; mp 2 1 3 9", 0},
	} {
		db := database(t, whole+x.s)
		i := frame.Find(db, "th")
		d := x.d(func(s string) natural.Formula { return meant(t, db, full(), i, s) })
		p, e := Proof(db, full(), i, d)
		if e != x.e || (len(p.Steps) == 0) != (e != api.OK) {
			t.Errorf("%s: %v, %d, want %d", name, p, e, x.e)
			continue
		}
		if got := steps(p); x.want != "*" && got != x.want {
			t.Errorf("%s: %q, want %q", name, got, x.want)
		}
		if e == api.OK {
			checkProof(t, db, i, p)
		}
		if model, wrong := proofModel(db, full(), i, d); wrong != e || steps(model) != steps(p) {
			t.Errorf("%s: the model: %q, %d, want %q, %d", name, steps(model), wrong, steps(p), e)
		}
	}
}

// steps returns the text of a proof.
func steps(p api.Proof) string {
	var l []string
	for _, x := range p.Steps {
		s := x.Label
		for _, a := range x.Args {
			s += " " + itoa(a)
		}
		l = append(l, s)
	}
	return strings.Join(l, " ; ")
}

// P27.1: logics without a field, the other order of Mp, and theorems that stand ahead of an axiom.
func TestLogics(t *testing.T) {
	const premise = "${ $d p y z $. e $e |- p $. th $p |- p $= ? $. $} "
	d := allOut(param("x"), use(0))
	noGen, noAll := full(), full()
	noGen.Gen = ""
	noAll.Gen, noAll.All, noAll.Dist, noAll.Vacuous, noAll.Spec = "", "", "", "", ""
	early := symbols + wffs + modus + rule + premise + axioms + quants + equals
	other := symbols + wffs + "${ j $e |- ( p -> q ) $. m $e |- p $. mp $a |- q $. $} " + rule + axioms + quants + equals + premise
	for name, x := range map[string]struct {
		s    string
		l    carry.Logic
		want string
		e    api.Errno
	}{
		"all of it":                   {whole + premise, full(), "wp ; vx ; wal 0 1 ; e ; gen 0 1 3 ; sp 0 1 ; mp 2 0 4 5", 0},
		"no Gen":                      {whole + premise, noGen, "", ErrFragment},
		"no All":                      {whole + premise, noAll, "", ErrFragment},
		"Mp in the other order":       {other, full(), "wp ; vx ; wal 0 1 ; sp 0 1 ; e ; gen 0 1 4 ; mp 2 0 3 5", 0},
		"ahead of the axioms":         {early, full(), "", ErrFragment},
		"no Refl, which no one needs": {whole + premise, func() carry.Logic { l := full(); l.Refl = ""; return l }(), "wp ; vx ; wal 0 1 ; e ; gen 0 1 3 ; sp 0 1 ; mp 2 0 4 5", 0},
	} {
		db := database(t, x.s)
		i := frame.Find(db, "th")
		p, e := Proof(db, x.l, i, d)
		if e != x.e || steps(p) != x.want {
			t.Errorf("%s: %q, %d, want %q, %d", name, steps(p), e, x.want, x.e)
		}
		if e == api.OK {
			checkProof(t, db, i, p)
		}
	}
	db := database(t, terms+"th $p |- ( s = t -> ( P u -> s = t ) ) $= ? $.")
	l, _ := carry.Guess(db)
	i := frame.Find(db, "th")
	if l.Simp != "b1" {
		t.Fatalf("%v", l)
	}
	p, e := Proof(db, l, i, node(natural.ImpliesIn, meant(t, db, l, i, "s = t"), node(natural.ImpliesIn, meant(t, db, l, i, "P u"), use(1))))
	if e != ErrFragment { // there is no Frege
		t.Errorf("%q, %d", steps(p), e)
	}
}

// P27.1: proofs with as many steps as may be, and more: from premises ( r -> ( q -> ( A -> B ) ) ) for formulas A, B, .., of which the first one has further negations.
func TestProofLimits(t *testing.T) {
	const n, least = 30, 1939
	for negations, want := range map[int]api.Errno{0: api.OK, api.MaxSteps - least: api.OK, api.MaxSteps - least + 1: api.ErrLarge} {
		formula := func(i int) string {
			of := func(n int) string { return []string{"p", "q", "r", "T."}[n%4] }
			f := "-. -. -. -. -. -. ( " + of(i) + " /\\ -. -. -. ( " + of(i/4) + " \\/ " + of(i/16) + " ) )"
			if i == 0 {
				f = strings.Repeat("-. ", negations) + f
			}
			return f
		}
		s := "${ $d p x y z $. $d q x y z $. $d r x y z $. "
		for i := range n {
			s += "e" + itoa(i) + " $e |- ( r -> ( q -> ( " + formula(i) + " -> " + formula(i+1) + " ) ) ) $. "
		}
		db := database(t, whole+s+"th $p |- ( r -> ( q -> ( "+formula(0)+" -> "+formula(n)+" ) ) ) $= ? $. $}")
		i := frame.Find(db, "th")
		d := use(0)
		for k := range n {
			d = out(out(out(use(n+2-k), use(2)), use(1)), d)
		}
		for _, h := range []string{formula(0), "q", "r"} {
			d = node(natural.ImpliesIn, meant(t, db, full(), i, h), d)
		}
		p, e := Proof(db, full(), i, d)
		if e != want || e == api.OK && len(p.Steps) != least+negations || e != api.OK && len(p.Steps) > 0 {
			t.Errorf("%d negations: %d steps, %d, want %d", negations, len(p.Steps), e, want)
		}
		if e == api.OK {
			checkProof(t, db, i, p)
		}
	}
}

// proved is the tree of a proof.
type proved struct {
	label string
	kids  []proved
}

// proofModel returns what Proof returns for a right logic and a theorem: it makes the whole tree of the proof, and shares it at the end. (ErrLarge, if the tree is too large.)
func proofModel(db api.Database, l carry.Logic, i int, d natural.Derivation) (p api.Proof, e api.Errno) {
	defer func() {
		if code, ok := recover().(api.Errno); ok {
			p, e = api.Proof{}, code
		}
	}()
	must := func(e api.Errno) {
		if e != api.OK {
			panic(e)
		}
	}
	f := db.Frames[i]
	var hyps []api.Hyp
	var open, closed []natural.Formula
	for _, h := range f.Hyps {
		if !h.Floating {
			g, e := carry.Formula(db, l, i, h.Text)
			must(e)
			hyps, open = append(hyps, h), append(open, g)
		}
	}
	goal, e := carry.Formula(db, l, i, f.Text)
	must(e)
	for _, g := range open {
		g, e := carry.Closed(db, l, g)
		must(e)
		closed = append(closed, g)
	}
	lines, e := Lines(l, closed, d)
	must(e)
	if !natural.Same(goal, lines[len(lines)-1].Formula) {
		panic(ErrTarget)
	}
	lines, e = Trim(lines)
	must(e)
	var trees []api.Tree
	for _, x := range lines {
		tree, e := Tree(db, l, i, x.Formula)
		must(e)
		trees = append(trees, tree)
	}
	whole := make([]proved, len(lines))
	for n, x := range lines {
		if x.Label == "" {
			whole[n] = hypothesisModel(db, l, hyps[x.From[0]], open[x.From[0]])
			continue
		}
		var given []proved
		var from []api.Tree
		for _, k := range x.From {
			given, from = append(given, whole[k]), append(from, trees[k])
		}
		whole[n] = stepModel(db, l, x.Label, trees[n], from, given)
	}
	var flat func(x proved) int
	flat = func(x proved) int {
		s := api.Step{Label: x.label}
		for _, k := range x.kids {
			s.Args = append(s.Args, flat(k))
		}
		p.Steps = append(p.Steps, s)
		if len(p.Steps) > api.MaxSteps {
			panic(api.ErrLarge)
		}
		return len(p.Steps) - 1
	}
	flat(whole[len(whole)-1])
	p, e = graph.Share(p)
	must(e)
	if _, v, e := graph.Texts(db, i, p); e != api.OK || v.Code != api.OK {
		panic(ErrFragment)
	}
	return p, api.OK
}

func grown(t api.Tree) proved {
	x := proved{label: t.Label}
	for _, k := range t.Kids {
		x.kids = append(x.kids, grown(k))
	}
	return x
}

// hypothesisModel returns the proof of a closed hypothesis.
func hypothesisModel(db api.Database, l carry.Logic, h api.Hyp, f natural.Formula) proved {
	tree, _ := syntax.Tree(db, h.Text)
	x := proved{label: h.Label}
	names := slices.DeleteFunc(natural.Free(f), func(s string) bool { return frame.Find(db, s) >= 0 })
	slices.Reverse(names)
	for _, name := range names {
		if l.Gen == "" {
			panic(ErrFragment)
		}
		variable, _ := syntax.Tree(db, []string{l.Set, name})
		all := db.Frames[frame.Find(db, l.All)]
		next := api.Tree{Label: l.All, Kids: []api.Tree{tree, variable}}
		if all.Hyps[0].Text[0] == l.Set {
			slices.Reverse(next.Kids)
		}
		x = stepModel(db, l, l.Gen, next, []api.Tree{tree}, []proved{x})
		tree = next
	}
	return x
}

// stepModel returns the proof of a line by an assertion, from those of the lines of From.
func stepModel(db api.Database, l carry.Logic, label string, tree api.Tree, from []api.Tree, given []proved) proved {
	f := db.Frames[frame.Find(db, label)]
	by := map[string]api.Tree{}
	var match func(pattern, t api.Tree)
	match = func(pattern, t api.Tree) {
		if slices.ContainsFunc(f.Hyps, func(h api.Hyp) bool { return h.Floating && h.Label == pattern.Label }) {
			if _, ok := by[pattern.Label]; !ok {
				by[pattern.Label] = t
			}
			return
		}
		if pattern.Label != t.Label {
			panic(ErrFragment)
		}
		for n := range pattern.Kids {
			match(pattern.Kids[n], t.Kids[n])
		}
	}
	own, _ := syntax.Tree(db, f.Text)
	match(own, tree)
	first := slices.IndexFunc(f.Hyps, func(h api.Hyp) bool { return !h.Floating })
	order := []int{0, 1}
	if label == l.Mp {
		if t, _ := syntax.Tree(db, f.Hyps[first].Text); len(t.Kids) > 0 {
			order = []int{1, 0}
		}
	}
	essential := 0
	x := proved{label: label}
	for _, h := range f.Hyps {
		if !h.Floating {
			t, _ := syntax.Tree(db, h.Text)
			match(t, from[order[essential]])
			essential++
		}
	}
	essential = 0
	for _, h := range f.Hyps {
		if h.Floating {
			x.kids = append(x.kids, grown(by[h.Label]))
		} else {
			x.kids = append(x.kids, given[order[essential]])
			essential++
		}
	}
	return x
}

// tree returns a random tree of a sort.
func (m maker) tree(sort byte, depth int) api.Tree {
	label := m.pick(map[byte]string{'w': "wp wq wr wf wt", 'x': "vx vy vz"}[sort])
	if sort == 'w' && depth > 0 {
		label = m.pick("wi wi wn wa wo wal wex weq wel wp")
	}
	t := api.Tree{Label: label}
	for _, k := range []byte(map[string]string{"wi": "ww", "wn": "w", "wa": "ww", "wo": "ww", "wal": "wx", "wex": "wx", "weq": "xx", "wel": "xx"}[label]) {
		t.Kids = append(t.Kids, m.tree(k, depth-1))
	}
	return t
}

// P27.4: trees of random translations, and of random formulas.
func TestRandomTrees(t *testing.T) {
	db := database(t, whole+"${ $d p x $. $d p z $. $d q y $. th $p |- ( p -> ( q -> r ) ) $= ? $. $}")
	found := 0
	for seed := range 400 {
		m := maker{rand.New(rand.NewSource(int64(seed)))}
		i := m.Intn(len(db.Frames))
		l := full()
		if m.Intn(2) == 0 {
			l.Not, l.Transp = "", ""
		}
		text, _ := syntax.Text(db, m.tree('w', m.Intn(5)))
		f, e := carry.Formula(db, l, i, text)
		if e != api.OK {
			continue // Not, where the logic has none
		}
		tree, e := Tree(db, l, i, f)
		if e != api.OK && e != ErrFragment || isEmpty(tree) != (e != api.OK) {
			t.Fatalf("%q: %v, %d", text, tree, e)
		}
		if e == api.OK {
			found++
			checkTree(t, db, l, i, f, tree)
		}
		if !slices.Contains(text, "A.") && !slices.Contains(text, "E.") && e != api.OK {
			t.Fatalf("%q: %d", text, e) // without binders nothing is left open
		}
	}
	if found < 200 {
		t.Errorf("%d trees", found)
	}
}

// P8, P27.5: proofs of random theorems that are carried to the kernel, and back.
func TestRandomProofs(t *testing.T) {
	codes := map[api.Errno]int{}
	for seed := range 250 {
		m := maker{rand.New(rand.NewSource(int64(seed)))}
		db := database(t, whole+"th $p |- ( p -> p ) $= ? $.")
		i := len(db.Frames) - 1
		// Formulas of the database stand for the atoms of a random derivation.
		var open []natural.Formula
		d, f := m.derivation(open, m.Intn(5))
		by := map[string]natural.Formula{}
		for _, name := range strings.Fields("p q P") {
			text, _ := syntax.Text(db, m.tree('w', 1))
			by[name], _ = carry.Formula(db, full(), i, text)
		}
		d, f = put(d, by), putFormula(f, by)
		if g, _, e := natural.Check(nil, nil, d); e != api.OK || !natural.Same(f, g) {
			continue // a parameter that is no longer fresh
		}
		tree, e := Tree(db, full(), i, f)
		if e != api.OK {
			continue
		}
		text, _ := syntax.Text(db, tree)
		if len(text) > 180 {
			continue
		}
		db = database(t, whole+"th $p |- "+strings.Join(text[1:], " ")+" $= ? $.")
		p, e := Proof(db, full(), i, d)
		model, wrong := proofModel(db, full(), i, d)
		if wrong != api.ErrLarge && (e != wrong || steps(p) != steps(model)) {
			t.Fatalf("%q: %q, %d, want %q, %d", text, steps(p), e, steps(model), wrong)
		}
		codes[e]++
		if e == api.OK {
			checkProof(t, db, i, p)
			words, e := compress.Proof(db, i, p)
			db.Frames[i].Proof = words
			c, f := carry.Proof(db, full(), i)
			if e != api.OK || f != api.OK && f != api.ErrLarge {
				t.Fatalf("%q: %d, %d", text, e, f)
			}
			if f == api.OK {
				back, e := Proof(db, full(), i, c.Derivation)
				if e == api.OK {
					checkProof(t, db, i, back)
				}
				codes[1000+e]++
			}
		}
	}
	if codes[api.OK] < 30 || codes[ErrFragment] < 10 || codes[1000] < 20 {
		t.Errorf("%v", codes)
	}
}

// putFormula returns a formula with others for its atoms, as far as these have no parameters that are bound there.
func putFormula(f natural.Formula, by map[string]natural.Formula) natural.Formula {
	if g, ok := by[f.Name]; ok && f.Kind == natural.Atom {
		return g
	}
	g := natural.Formula{Kind: f.Kind, Name: f.Name, Terms: f.Terms}
	for _, p := range f.Parts {
		g.Parts = append(g.Parts, putFormula(p, by))
	}
	return g
}

// put returns a derivation with other formulas for the atoms of its own.
func put(d natural.Derivation, by map[string]natural.Formula) natural.Derivation {
	d.Formula = putFormula(d.Formula, by)
	d.Kids = slices.Clone(d.Kids)
	for n := range d.Kids {
		d.Kids[n] = put(d.Kids[n], by)
	}
	return d
}
