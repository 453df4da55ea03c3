package carry

import (
	"slices"
	"strings"
	"testing"

	"apodixis/api"
	"apodixis/compress"
	"apodixis/frame"
	"apodixis/natural"
	"apodixis/syntax"
)

// further axioms, rules and theorems behind those of the logic.
const further = `own $a |- ( x = y -> E. z x e. z ) $. ex $a |- E. x p $. ${ k $e |- p $. keep $a |- ( p /\ p ) $. $} tt $a |- T. $. ` +
	`dup $p |- ( p -> p ) $= wp wp wp wi wi wp wp wi wp wp a1 wp wp wp wi wp wi wi wp wp wp wi wi wp wp wi wi wp wp wp wi a1 wp wp wp wi wp a2 mp mp $. ` +
	`${ h $e |- p $. all $p |- A. x ( q -> p ) $= wq wp wi vx wp wq wp wi h wp wq a1 mp gen $. same $p |- p $= h $. $} `

// written returns what was carried over as lines: the conclusion, the assumptions, and the theory with its labels.
func written(t *testing.T, c Carried) string {
	t.Helper()
	l := []string{text(t, c.Conclusion)}
	for _, f := range c.Assumptions {
		l = append(l, "from "+text(t, f))
	}
	for n, f := range c.Theory {
		l = append(l, c.Labels[n]+" "+text(t, f))
	}
	return strings.Join(l, " ; ")
}

// accepted checks that the kernel accepts what was carried over.
func accepted(t *testing.T, c Carried) {
	t.Helper()
	f, path, e := natural.Check(c.Theory, c.Assumptions, c.Derivation)
	if e != api.OK || !natural.Same(f, c.Conclusion) {
		t.Errorf("the kernel: %v, %d at %v, want %v", f, e, path, c.Conclusion)
	}
}

// sameCarried reports whether two results are equal in all fields.
func sameCarried(a, b Carried) bool {
	return slices.EqualFunc(a.Theory, b.Theory, natural.Same) && slices.Equal(a.Labels, b.Labels) && slices.EqualFunc(a.Assumptions, b.Assumptions, natural.Same) && sameDerivation(a.Derivation, b.Derivation) && natural.Same(a.Conclusion, b.Conclusion)
}

// P26.1, P26.2, P8: proofs that are carried over, and what they are from.
func TestProof(t *testing.T) {
	l := full()
	for name, x := range map[string]struct {
		s, want string
		nodes   int
	}{
		"Simp":                       {"th $p |- ( q -> ( p -> q ) ) $= wq wp a1 $.", "$> q $( x y z $) $> p $( x y z $) q $( x y z $)", 3},
		"a proof of five steps":      {"th $p |- ( q -> q ) $= wq dup $.", "$> q $( x y z $) q $( x y z $)", 2 + 3 + 3 + 10},
		"a premise":                  {"${ e $e |- ( p -> q ) $. th $p |- ( p -> q ) $= e $. $}", "$> p $( x y z $) q $( x y z $) ; from $A v0 $A v1 $A v2 $> p $( v0 v1 v2 $) q $( v0 v1 v2 $)", 4},
		"premises":                   {"${ $d p x y z $. $d q x y $. e $e |- p $. f $e |- ( p -> q ) $. th $p |- q $= wp wq e f mp $. $}", "q $( z $) ; from p ; from $A v0 $> p q $( v0 $)", 4},
		"a premise of no use":        {"${ $d p x y z $. e $e |- F. $. f $e |- p $. g2 $e wff q $. th $p |- p $= f $. $}", "p ; from $F ; from p ; from $A v0 $A v1 $A v2 q $( v0 v1 v2 $)", 1},
		"a premise of the wff":       {"${ $d p x y z $. e $e |- p $. f $e wff p $. th $p |- p $= e $. $}", "p ; from p ; from p", 1},
		"Gen":                        {"${ e $e |- x = y $. th $p |- A. y x = y $= vx vy weq vy e gen $. $}", "$A v0 $= x v0 ; from $A v0 $A v1 $= v0 v1", 4},
		"an axiom":                   {"th $p |- ( y = x -> E. z y e. z ) $= vy vx vz own $.", "$> $= y x $E v0 wel $( y v0 $) ; own $A v0 $A v1 $> $= v1 v0 $E v2 wel $( v1 v2 $)", 3},
		"an axiom without any":       {"th $p |- T. $= tt $.", "wt ; tt wt", 1},
		"an axiom twice":             {"th $p |- ( T. -> T. ) $= wt wt wt wi tt wt wt a1 mp $. th2 $p |- ( T. -> T. ) $= wt wt wt wi tt wt wt a1 mp $.", "$> wt wt ; tt wt", 5},
		"a schema":                   {"th $p |- E. y T. $= wt vy ex $.", "$E v0 wt ; ex $E v0 wt", 1},
		"a theorem of a premise":     {"${ $d p x y z $. $d q x y z $. e $e |- p $. th $p |- A. x ( q -> p ) $= wp wq vx e all $. $}", "$A v0 $> q p ; from p", 2 + 1 + 3},
		"a premise that is left":     {"${ $d p x y z $. e $e |- p $. th $p |- p $= wp e same $. $}", "p ; from p", 1},
		"left again and again":       {"${ $d p x y z $. e $e |- p $. th $p |- p $= wp wp wp e same same same $. $}", "p ; from p", 1},
		"a theorem that captures":    {"${ e $e |- x = y $. th $p |- A. x ( x = x -> x = y ) $= vx vy weq vx vx weq vx e all $. $}", "$A v0 $> $= v0 v0 $= v0 y ; from $A v0 $A v1 $= v0 v1", 2 + 3 + 3},
		"a compressed proof":         {"th $p |- ( q -> q ) $= ( dup ) AB $.", "$> q $( x y z $) q $( x y z $)", 18},
		"a shared step":              {"th $p |- ( T. -> T. ) $= ( wt wi tt a1 mp ) AAABCAADE $.", "$> wt wt ; tt wt", 5},
		"Spec":                       {"th $p |- ( A. y T. -> T. ) $= wt vy sp $.", "$> $A v0 wt wt", 3},
		"Vacuous":                    {"${ $d p x $. th $p |- ( p -> A. x p ) $= wp vx a5 $. $}", "$> p $( y z $) $A v0 p $( y z $)", 3},
		"Dist":                       {"th $p |- ( A. x ( p -> F. ) -> ( A. x p -> A. x F. ) ) $= wp wf vx a4 $.", "$> $A v0 $> p $( v0 y z $) $F $> $A v0 p $( v0 y z $) $A v0 $F", 8},
		"Transp":                     {"th $p |- ( ( -. F. -> -. T. ) -> ( T. -> F. ) ) $= wf wt a3 $.", "$> $> $> $F $F $> wt $F $> wt $F", 8},
		"Frege":                      {"${ $d p x y z $. th $p |- ( ( p -> ( p -> p ) ) -> ( ( p -> p ) -> ( p -> p ) ) ) $= wp wp wp a2 $. $}", "$> $> p $> p p $> $> p p $> p p", 10},
		"Refl and Eucl":              {"th $p |- ( x = x -> x = x ) $= vx vx weq vx vx weq vx vx weq wi vx id vx vx vx eu mp $.", "$> $= x x $= x x", 7},
		"an axiom with two bindings": {"th $p |- A. x E. x p $= wp vx wex vx wp vx ex gen $.", "$A v0 $E v1 p $( v1 y z $) ; ex $A v0 $A v1 $E v2 p $( v2 v0 v1 $)", 4},
	} {
		db := database(t, whole+further+x.s)
		i := frame.Find(db, "th")
		c, e := Proof(db, l, i)
		if e != api.OK {
			t.Errorf("%s: %d", name, e)
			continue
		}
		nodes, _ := natural.Size(c.Derivation)
		if got := written(t, c); got != x.want || nodes != x.nodes {
			t.Errorf("%s: %q, %d nodes, want %q, %d", name, got, nodes, x.want, x.nodes)
		}
		accepted(t, c)
		if want, e := proofModel(db, l, i); e != api.OK || !sameCarried(c, want) {
			t.Errorf("%s: %v, want %v, %d", name, c, want, e)
		}
	}
}

// P26.1: the errors of Proof, and which one comes first.
func TestProofErrors(t *testing.T) {
	l := full()
	few, least := full(), Logic{Imp: "wi", Mp: "mp"}
	few.Gen, few.Spec, few.Simp = "", "", ""
	const classes = "cls $a |- no C $. ${ ce $e |- no C $. cl2 $a |- T. $. $} ${ n $e |- no x $. nox $a |- T. $. $} "
	for name, x := range map[string]struct {
		s    string
		l    Logic
		want api.Errno
	}{
		"an axiom":                      {"th $a |- p $.", l, api.ErrArg},
		"a syntax axiom":                {"${ h2 $e |- p $. th $a wff T. -> $. $}", l, api.ErrArg},
		"an unknown step":               {"th $p |- T. $= ? $.", l, api.ErrUnknown},
		"no steps":                      {"th $p |- T. $= $.", l, api.ErrStack},
		"another formula":               {"th $p |- F. $= tt $.", l, api.ErrProves},
		"a label of nothing":            {"th $p |- F. $= none $.", l, api.ErrLabel},
		"the verdict ahead of premises": {"${ e $e |- no C $. th $p |- F. $= tt $. $}", l, api.ErrProves},
		"a premise without translation": {"${ e $e |- no C $. f $e |- ( p $. th $p |- T. $= tt $. $}", l, ErrSyntax},
		"a premise without a tree":      {"${ f $e |- ( p $. e $e |- no C $. th $p |- T. $= tt $. $}", l, syntax.ErrParse},
		"a premise of a set":            {"${ e $e set x $. th $p |- T. $= tt $. $}", l, ErrSyntax},
		"a premise of a class":          {"${ e $e class C $. th $p |- T. $= tt $. $}", l, ErrSyntax},
		"a formula of no tree":          {"no1 $a |- ) $. th $p |- ) $= no1 $.", l, syntax.ErrParse},
		"a formula of no translation":   {"th $p |- no C $= cC cls $.", l, ErrSyntax},
		"a formula with two trees":      {"th $p |- ( p -> ( q -> p ) ) $= wp wq a1 $. two2 $a wff ( p -> ( q -> r ) ) $.", least, syntax.ErrAmbiguous},
		"a formula of the wff":          {"th $p wff T. $= wt $.", l, ErrSyntax},
		"a variable":                    {"th $p wff p $= wp $.", l, ErrSyntax},
		"a formula of a set":            {"th $p set x $= vx $.", l, ErrSyntax},
		"a rule":                        {"${ e $e |- T. $. th $p |- ( T. /\\ T. ) $= wt e keep $. $}", l, ErrRule},
		"a rule that the logic lacks":   {"${ e $e |- T. $. th $p |- A. x T. $= wt vx e gen $. $}", few, ErrRule},
		"an axiom that it lacks":        {"th $p |- ( A. x T. -> T. ) $= wt vx sp $.", few, api.OK},
		"a class in a step":             {"th $p |- T. $= cC cC cls cl2 $.", l, ErrSyntax},
		"a class in an axiom":           {"cx $a |- ( no C -> T. ) $. th $p |- T. $= tt $. th2 $p |- ( no C -> T. ) $= cC cx $.", l, api.OK},
		"no class where there is one":   {"${ e1 $e |- p $. pr $a |- T. $. $} th $p |- T. $= cC wcl cC cls pr $.", l, ErrSyntax},
		"a set that is no class":        {"th $p |- T. $= vx cv cC $.", l, api.ErrStack},
		"an assertion with other types": {"${ o $e wff p $. oth $a |- p $. $} th $p |- T. $= wt wt oth $.", l, ErrRule},
		"a theorem of one":              {"${ o $e wff p $. oth $p |- T. $= tt $. $} th $p |- T. $= wt wt oth $.", l, api.OK},
		"one that needs it":             {"${ o $e wff p $. oth $a |- p $. oth2 $p |- p $= wp o oth $. $} th $p |- T. $= wt wt oth2 $.", l, ErrRule},
		"a theorem of syntax in a step": {"tw $p wff T. $= wt $. th $p |- ( T. -> ( T. -> T. ) ) $= tw tw a1 $.", l, ErrSyntax},
		"one of syntax, not asserted":   {"tw $p wff T. $= wt $. th $p wff T. $= tw $.", l, ErrSyntax},
		"a premise as syntax":           {"${ e $e wff T. $. th $p |- ( T. -> ( T. -> T. ) ) $= e e a1 $. $}", l, ErrSyntax},
		"a theorem without a proof":     {"lem $p |- F. $= ? $. th $p |- F. $= lem $.", l, api.ErrUnknown},
		"one behind a rule":             {"lem $p |- F. $= ? $. ${ e $e |- F. $. e2 $e |- F. $. run $a |- T. $. $} th $p |- T. $= lem lem run $.", l, ErrRule},
		"the floating ones first":       {"${ e $e |- no C $. run $a |- T. $. run2 $a |- no C $. $} th $p |- T. $= cC cC cls run $.", l, ErrSyntax},
		"the first premise first":       {"lem $p |- ( F. -> F. ) $= ? $. ${ e $e |- T. $. rr $a |- F. $. $} th $p |- F. $= wf wf tt rr lem mp $.", l, ErrRule},
		"the second one":                {"lem $p |- ( F. -> F. ) $= ? $. bot $a |- F. $. th $p |- F. $= wf wf bot lem mp $.", l, api.ErrUnknown},
		"what is not needed":            {"lem $p |- F. $= ? $. ${ e $e |- F. $. f $e |- T. $. snd $p |- T. $= f $. $} th $p |- T. $= lem tt snd $.", l, api.OK},
		"no tree, and not needed":       {"noa $a |- ( p $. ${ e $e |- ( p $. nob $p |- T. $= tt $. $} th $p |- T. $= wt wt noa nob $.", l, api.OK},
		"no tree in the theory":         {"noa $a |- ( T. $. ${ e $e |- ( T. $. nob $p |- ( T. $= e $. noc $a |- T. $. $} thx $p |- ( T. $= noa nob $. th $p |- T. $= thx noc $.", l, ErrRule},
		"a premise of no tree":          {"noa $a |- ( T. $. ${ e $e |- ( T. $. f $e |- T. $. nob $p |- T. $= f $. $} th $p |- T. $= noa tt nob $.", l, api.OK},
		"two trees in the theory":       {"amb $a wff ( p /\\ -. q ) $. sch $a |- ( p -> ( T. /\\ -. q ) ) $. th $p |- ( T. -> ( T. /\\ -. T. ) ) $= wt wt sch $.", l, syntax.ErrAmbiguous},
		"two trees of two steps":        {"amb $a wff x e. y $. anyq $a |- q $. dropp $a |- ( p -> T. ) $. th $p |- T. $= vx vy wel wt vx vy amb anyq vx vy wel dropp mp $.", l, ErrSyntax},
		"the same tree of both":         {"amb $a wff x e. y $. anyq $a |- q $. dropp $a |- ( p -> T. ) $. th $p |- T. $= vx vy wel wt vx vy wel anyq vx vy wel dropp mp $.", l, api.OK},
	} {
		db := database(t, whole+further+classes+x.s)
		i := frame.Find(db, "th")
		c, e := Proof(db, x.l, i)
		if e != x.want || (c.Derivation.Rule == 0) != (e != api.OK) || isZero(c.Conclusion) != (e != api.OK) || e != api.OK && len(c.Theory)+len(c.Labels)+len(c.Assumptions) > 0 {
			t.Errorf("%s: %v, %d, want %d", name, c, e, x.want)
		}
		if want, wrong := proofModel(db, x.l, i); wrong != x.want && Check(db, x.l) == api.OK || e == api.OK && !sameCarried(c, want) {
			t.Errorf("%s: the model: %d, want %d", name, wrong, x.want)
		}
	}
}

// instances returns the terms of the AllOuts of a derivation, each behind those of its Kids.
func instances(d natural.Derivation) string {
	var l []string
	var walk func(d natural.Derivation)
	walk = func(d natural.Derivation) {
		for _, k := range d.Kids {
			walk(k)
		}
		if d.Rule == natural.AllOut {
			l = append(l, d.Term.Name)
		}
	}
	walk(d)
	return strings.Join(l, " ")
}

// A logic whose variables have the names of dummies: &2 is a constant, &4 a variable.
const dummies = "$c wff |- set cls ( ) -> A. = &2 F. $. $v p x &4 y &03 q C $. wp $f wff p $. vx $f set x $. v4 $f set &4 $. vy $f set y $. v3 $f set &03 $. wq $f wff q $. cC $f cls C $. " +
	"wi $a wff ( p -> q ) $. wal $a wff A. x p $. weq $a wff x = y $. wf $a wff F. $. " + rules +
	"a1 $a |- ( p -> ( q -> p ) ) $. sp $a |- ( A. x p -> p ) $. own $a |- ( x = x -> F. ) $. self $a |- x = x $. any $a |- ( q -> y = y ) $. " +
	"bad $p |- F. $= vx vx weq wf vx self vx own mp $. " + // x is a dummy
	"two $p |- ( F. -> F. ) $= wf wf wf wi bad wf wf a1 mp $. again $p |- F. $= wf wf bad two mp $. third $p |- F. $= wf wf again two mp $. " +
	"bad4 $p |- F. $= v4 v4 weq wf v4 self v4 own mp $. two4 $p |- ( F. -> F. ) $= wf wf wf wi bad4 wf wf a1 mp $. " +
	"bady $p |- F. $= vy vy weq wf vy self vy own mp $. twoy $p |- ( F. -> F. ) $= wf wf wf wi bady wf wf a1 mp $. "

// P26.1: what dummies become: names, which are spent whether they are needed or not, and leave symbols out.
func TestDummies(t *testing.T) {
	db := database(t, dummies)
	l := Logic{Set: "set", Imp: "wi", All: "wal", Eq: "weq", Mp: "mp", Gen: "gen", Simp: "a1", Spec: "sp"}
	for label, want := range map[string]string{
		"bad":   "x x",   // its own variables are parameters
		"two":   "&1 &1", // those of bad are &1, &3, &5 and &6
		"two4":  "&3 &3",
		"twoy":  "&5 &5",
		"again": "&11 &11 &1 &1",         // those of bad, of two, and of the bad of this
		"third": "&23 &23 &15 &15 &7 &7", // those of again stand ahead of those of its bad
	} {
		i := frame.Find(db, label)
		c, e := Proof(db, l, i)
		if got := instances(c.Derivation); e != api.OK || got != want {
			t.Errorf("%s: %q, %d, want %q", label, got, e, want)
		}
		accepted(t, c)
		if model, e := proofModel(db, l, i); e != api.OK || !sameCarried(c, model) {
			t.Errorf("%s: %v, want %v, %d", label, c, model, e)
		}
	}
}

// P26.1: dummies of the typecode wff mean False; those of others have no meaning.
func TestFalseDummies(t *testing.T) {
	db := database(t, dummies+"skip $a |- ( q -> F. ) $. all $a |- q $. "+
		"yes $p |- F. $= wq wf wq all wq skip mp $. th $p |- ( F. -> F. ) $= wf wf wf wi yes wf wf a1 mp $. "+
		"noC $a wff C $. sch $a |- ( C -> F. ) $. anyC $a |- C $. byC $p |- F. $= cC noC wf cC anyC cC sch mp $. thC $p |- ( F. -> F. ) $= wf wf wf wi byC wf wf a1 mp $.")
	l := Logic{Set: "set", Imp: "wi", All: "wal", Eq: "weq", Mp: "mp", Gen: "gen", Simp: "a1", Spec: "sp"}
	for label, want := range map[string]string{
		"yes": "wf ; all $A v0 $A v1 $A v2 $A v3 q $( v2 v1 v3 v0 $) ; skip $A v0 $A v1 $A v2 $A v3 $> q $( v2 v1 v3 v0 $) wf",
		"th":  "$> wf wf ; all $F ; skip $> $F wf",
	} {
		c, e := Proof(db, l, frame.Find(db, label))
		if e != api.OK || written(t, c) != want {
			t.Errorf("%s: %q, %d, want %q", label, written(t, c), e, want)
		}
		accepted(t, c)
	}
	for _, label := range []string{"byC", "thC"} {
		if c, e := Proof(db, l, frame.Find(db, label)); e != ErrSyntax || !isZero(c.Conclusion) {
			t.Errorf("%s: %v, %d", label, c, e)
		}
	}
}

// ladder returns theorems of T., each of which has more nodes than the one before: by two (a), by five (b), or twice as many and three (c); the first one is tt, which has one node, or four, which has four.
func ladder(last, steps string) string {
	s := whole + further + "imp $a |- ( T. -> T. ) $. sq $a |- ( T. -> ( T. -> T. ) ) $. eqt $a |- ( x = x -> T. ) $. four $p |- T. $= vx vx weq wt vx id vx eqt mp $. "
	for n, step := range steps {
		label := "s" + itoa(n)
		s += label + " $p |- T. $= " + map[rune]string{
			'a': "wt wt " + last + " imp mp",
			'b': "wt vx wal wt wt vx " + last + " gen wt vx sp mp",
			'c': "wt wt " + last + " wt wt wt wi " + last + " sq mp mp",
		}[step] + " $. "
		last = label
	}
	return s + "th $p |- T. $= " + last + " $. "
}

// to returns the steps of a ladder to so many nodes. (There are none to 2 and 4.)
func to(n int) string {
	half := (n - 3) / 2
	switch {
	case n == 1:
		return ""
	case n%2 == 0:
		return to(n-5) + "b"
	case half%2 == 1 || half > 4:
		return to(half) + "c"
	}
	return to(n-2) + "a"
}

// P26.1: 8000 nodes, and more; the depth 1000, and a greater one.
func TestProofLimits(t *testing.T) {
	for n, want := range map[int]api.Errno{1: api.OK, 3: api.OK, 6: api.OK, 1000: api.OK, 7999: api.OK, 8000: api.OK, 8001: api.ErrLarge, 8002: api.ErrLarge, 80000: api.ErrLarge, 1 << 40: api.ErrLarge} {
		db := database(t, ladder("tt", to(n)))
		c, e := Proof(db, full(), frame.Find(db, "th"))
		nodes, _ := natural.Size(c.Derivation)
		if e != want || e == api.OK && nodes != n {
			t.Errorf("%d nodes: %d, %d, want %d", n, nodes, e, want)
		}
	}
	// With AllOuts: four has one, and "c" makes 11 nodes of its four.
	for steps, want := range map[string]api.Errno{to(8000): api.OK, to(7995) + "aa": api.OK, to(7995) + "aaa": api.ErrLarge} {
		rest, ok := strings.CutPrefix(steps, to(11))
		if !ok {
			t.Fatal(steps)
		}
		db := database(t, ladder("four", "c"+rest))
		c, e := Proof(db, full(), frame.Find(db, "th"))
		if nodes, _ := natural.Size(c.Derivation); e != want || e == api.OK && nodes < 7999 {
			t.Errorf("%s: %d nodes with AllOuts, %d, want %d", steps, nodes, e, want)
		}
	}
	// An unknown step behind 7997 nodes, which a Mp and its first premise come to, and behind 7999.
	for n, want := range map[int]api.Errno{7999: api.ErrUnknown, 8000: api.ErrLarge} {
		db := database(t, ladder("tt", to(n))+"un $p |- ( T. -> T. ) $= ? $. last $p |- T. $= wt wt th un mp $.")
		if _, e := Proof(db, full(), frame.Find(db, "last")); e != want {
			t.Errorf("an unknown step behind %d nodes and one: %d, want %d", n, e, want)
		}
	}
	step := "${ rh $e |- T. $. r1 $p |- T. $= wt wt rh imp mp $. r10 $p |- T. $= rh" + strings.Repeat(" r1", 10) + " $. r100 $p |- T. $= rh" + strings.Repeat(" r10", 10) + " $. $} "
	for depth, want := range map[int]api.Errno{999: api.OK, 1000: api.OK, 1001: api.ErrLarge, 1100: api.ErrLarge} {
		n := depth - 1
		db := database(t, ladder("tt", "")+step+"deep $p |- T. $= tt"+strings.Repeat(" r100", n/100)+strings.Repeat(" r10", n/10%10)+strings.Repeat(" r1", n%10)+" $. ")
		c, e := Proof(db, full(), frame.Find(db, "deep"))
		if _, got := natural.Size(c.Derivation); e != want || e == api.OK && got != depth {
			t.Errorf("the depth %d: %d, %d, want %d", depth, got, e, want)
		}
	}
}

// doubling returns theorems that come to their premise by others, the last one by more than 2^n.
func doubling(n int) string {
	s := "${ h $e |- p $. t0 $p |- p $= h $. "
	for k := range n {
		label := "t" + itoa(k)
		s += "t" + itoa(k+1) + " $p |- p $= wp wp h " + label + " " + label + " $. "
	}
	return s + "$} "
}

// P1, P26.1: theorems that are used twice by each other, though nothing comes of it but names of dummies.
func TestDoubling(t *testing.T) {
	l := Logic{Set: "set", Imp: "wi", All: "wal", Eq: "weq", Mp: "mp", Gen: "gen", Simp: "a1", Spec: "sp"}
	for n, number := range map[int]int{0: 4, 1: 12, 3: 60, 8: 2044, 20: 8388604, 40: 8796093022204} { // each of the 2^(n+1) - 1 theorems has four dummies
		last := "t" + itoa(n)
		db := database(t, dummies+doubling(n)+"short $p |- F. $= wf bad "+last+" $.")
		i := frame.Find(db, "short")
		c, e := Proof(db, l, i)
		if e != api.OK {
			t.Errorf("%d: %d", n, e)
		}
		name := number + 3 // &2 and &4 are symbols, and it is the next one
		if got := instances(c.Derivation); got != "&"+itoa(name)+" &"+itoa(name) {
			t.Errorf("%d: %q, want %d", n, got, name)
		}
		if n > 8 {
			continue
		}
		if want, e := proofModel(db, l, i); e != api.OK || !sameCarried(c, want) {
			t.Errorf("%d: %v, want %v, %d", n, c, want, e)
		}
	}
}

// P26.1: Mp in the other order: its premises are made in the order of its hypotheses.
func TestOtherOrder(t *testing.T) {
	const mp, other = "m $e |- p $. j $e |- ( p -> q ) $. mp $a |- q $.", "j $e |- ( p -> q ) $. m $e |- p $. mp $a |- q $."
	const th = "tt $a |- T. $. imp $a |- ( T. -> T. ) $. un $p |- ( T. -> T. ) $= ? $. ${ k $e |- p $. keep $a |- T. $. $} th $p |- T. $= wt wt imp tt mp $. bad $p |- T. $= wt wt un wt tt keep mp $."
	db := database(t, replaced(t, whole, mp, other)+th)
	for label, want := range map[string]api.Errno{"th": api.OK, "bad": api.ErrUnknown} {
		i := frame.Find(db, label)
		c, e := Proof(db, full(), i)
		if model, wrong := proofModel(db, full(), i); e != want || wrong != want || !sameCarried(c, model) {
			t.Errorf("%s: %v, %d, want %v, %d", label, c, e, model, wrong)
		}
		if e != api.OK {
			continue
		}
		accepted(t, c)
		if got := written(t, c); got != "wt ; imp $> wt wt ; tt wt" || c.Derivation.Kids[0].Index != 0 || c.Derivation.Kids[1].Index != 1 {
			t.Errorf("%q: %v", got, c.Derivation)
		}
	}
}

// P26.1: trees of steps as large and as deep as may be, and larger ones, with translations and without.
func TestStepTrees(t *testing.T) {
	s := replaced(t, terms, "R $.", "R cls none $.", "u $.", "u C $.", "tu $f term u $.", "tu $f term u $. cC $f cls C $.") + "te $a term $. tp $a term s t $. ce $a cls $. cp $a cls C s $. wT $a wff none $. " +
		"${ e1 $e |- none $. e2 $e |- P s $. bar $a |- none $. e3 $e |- C none $. baz $a |- none $. $} ax $a |- P s $. ac $a |- C none $. an $a |- none $. th $p |- none $= an $. "
	// sized returns the steps of a term with n nodes, each as a step.
	var list []api.Step
	var sized func(n int) int
	sized = func(n int) int {
		x := api.Step{Label: "te"}
		switch {
		case n == 1:
		case n%2 == 0:
			x = api.Step{Label: "suc", Args: []int{sized(n - 1)}}
		default:
			half := sized((n - 1) / 2)
			x = api.Step{Label: "tp", Args: []int{half, half}}
		}
		list = append(list, x)
		return len(list) - 1
	}
	tower := func(depth int) int {
		list = append(list, api.Step{Label: "zero"})
		for range depth - 1 {
			list = append(list, api.Step{Label: "suc", Args: []int{len(list) - 1}})
		}
		return len(list) - 1
	}
	add := func(label string, args ...int) int {
		list = append(list, api.Step{Label: label, Args: args})
		return len(list) - 1
	}
	for name, x := range map[string]struct {
		term  func() int
		class bool // also one without a translation, around it
		want  api.Errno
	}{
		"1000 nodes":                 {func() int { return sized(1000) }, false, ErrRule},
		"4000 nodes":                 {func() int { return sized(4000) }, false, ErrRule},
		"4001 nodes":                 {func() int { return sized(4001) }, false, api.ErrLarge},
		"the depth 100":              {func() int { return tower(100) }, false, ErrRule},
		"the depth 101":              {func() int { return tower(101) }, false, api.ErrLarge},
		"the depth 200":              {func() int { return tower(200) }, false, api.ErrLarge},
		"no translation":             {func() int { return sized(100) }, true, ErrSyntax},
		"none, and very large":       {func() int { return sized(3999) }, true, api.ErrLarge}, // with what is around it
		"none, and as large":         {func() int { return sized(3998) }, true, ErrSyntax},
		"the first of two":           {func() int { return tower(101) }, true, api.ErrLarge},
		"none, and very deep inside": {func() int { return tower(100) }, true, ErrSyntax},
	} {
		list = nil
		db := database(t, s)
		n := x.term()
		premise := add("an")
		second := add("ax", n)
		last := 0
		if x.class {
			around := add("cp", n, add("ce"))
			third := add("ac", around)
			last = add("baz", n, around, premise, second, third)
		} else {
			last = add("bar", n, premise, second)
		}
		i := frame.Find(db, "th")
		words, e := compress.Proof(db, i, api.Proof{Steps: list[:last+1]})
		if e != api.OK {
			t.Fatalf("%s: %d", name, e)
		}
		db.Frames[i].Proof = words
		l := Logic{Set: "term", Imp: "wi", Eq: "weq", Mp: "mp"}
		c, e := Proof(db, l, i)
		if e != x.want || !isZero(c.Conclusion) {
			t.Errorf("%s: %d, want %d", name, e, x.want)
		}
		if _, wrong := proofModel(db, l, i); wrong != x.want {
			t.Errorf("%s: the model: %d, want %d", name, wrong, x.want)
		}
	}
}
