package meaning

import (
	"slices"
	"strings"
	"testing"

	"apodixis/api"
	"apodixis/book"
	"apodixis/frame"
	"apodixis/layout"
	"apodixis/natural"
)

// parsed returns the formula of a text.
func parsed(t *testing.T, s string) natural.Formula {
	t.Helper()
	f, at, e := natural.Parse(s)
	if e != api.OK {
		t.Fatalf("%q: %d at %d", s, e, at)
	}
	return f
}

// P25.1, as the layers that build formulas need it.
func TestFormulas(t *testing.T) {
	p, q, r := parsed(t, "p"), parsed(t, "$A x P $( x $)"), parsed(t, "$F")
	x, y := Parameter("x"), natural.Term{Name: "f", Args: []natural.Term{{Name: "y"}}}
	for want, f := range map[string]natural.Formula{
		"p":                         Implies(p),
		"$> p $A x P $( x $)":       Implies(p, q),
		"$> p $> $A x P $( x $) $F": Implies(p, q, r),
		"$> $> p p $F":              Implies(Implies(p, p), r),
		"$F":                        False(),
		"$> $> p $F $F":             Not(Not(p)),
		"$= x f $( y $)":            Equal(x, y),
	} {
		if !natural.Same(f, parsed(t, want)) {
			t.Errorf("%v, want %q", f, want)
		}
	}
	if !IsParameter(x) || IsParameter(y) || IsParameter(natural.Term{}) || IsParameter(natural.Term{Args: []natural.Term{x}}) {
		t.Error("parameters")
	}
	for n, want := range map[int]bool{1: true, api.MaxNodes - 1: true, api.MaxNodes: false, 1 << 20: false} {
		if Fits(natural.Term{Name: "f", Args: slices.Repeat([]natural.Term{x}, n)}) != want {
			t.Errorf("%d nodes: %t", n+1, !want)
		}
	}
	deep := x
	for n := range 2 * api.MaxDepth {
		if Fits(deep) != (n < api.MaxDepth) {
			t.Errorf("the depth %d", n+1)
		}
		if nodes, depth := (Meaning{Term: deep}).Size(); nodes != n+1 || depth != n+1 {
			t.Errorf("%d nodes of the depth %d, want %d", nodes, depth, n+1)
		}
		deep = natural.Term{Name: "f", Args: []natural.Term{deep}}
	}
	if nodes, depth := (Meaning{Formula: parsed(t, "$> p $A x P $( f $( x $) y $)")}).Size(); nodes != 7 || depth != 5 {
		t.Errorf("%d nodes of the depth %d", nodes, depth)
	}
}

// Keys tell any formulas apart.
func TestKeys(t *testing.T) {
	term := func(name string, args ...natural.Term) natural.Term {
		return natural.Term{Name: name, Args: args}
	}
	l := []natural.Formula{
		{}, {Kind: 1}, {Kind: 10}, {Kind: -1}, {Name: "1"}, {Kind: 1, Name: "0"}, {Name: "0 0"}, {Name: "a"}, {Name: "a b"},
		{Terms: []natural.Term{{}}}, {Terms: []natural.Term{{}, {}}}, {Terms: []natural.Term{{Index: 1}}}, {Terms: []natural.Term{{Index: -1}}},
		{Terms: []natural.Term{term("a"), term("b")}}, {Terms: []natural.Term{term("ab")}}, {Terms: []natural.Term{term("a", term("b"))}}, {Name: "a", Terms: []natural.Term{term("b")}},
		{Parts: []natural.Formula{{}}}, {Parts: []natural.Formula{{}, {}}}, {Parts: []natural.Formula{{Parts: []natural.Formula{{}}}}}, {Terms: []natural.Term{term("a")}, Parts: []natural.Formula{{Name: "b"}}}, {Parts: []natural.Formula{{Name: "a"}, {Name: "b"}}},
	}
	for i, f := range l {
		for j, g := range l {
			if (Key(f) == Key(g)) != (i == j) {
				t.Errorf("%v and %v", f, g)
			}
		}
		if Key(f) != Key(Copy(f)) || !natural.Same(f, Copy(f)) {
			t.Errorf("the copy of %v", f)
		}
	}
	if Key(natural.Formula{Terms: []natural.Term{}}) != Key(natural.Formula{}) {
		t.Error("nil and empty lists differ")
	}
}

// R4: copies are equal, and no memory is shared.
func TestCopies(t *testing.T) {
	f := parsed(t, "$> P $( f $( x $) $) $A y $= x y")
	d := natural.Derivation{Rule: 1, Index: 2, Name: "n", Term: natural.Term{Name: "f", Args: []natural.Term{{Name: "x"}}}, Formula: f, Kids: []natural.Derivation{{Formula: f}, {Rule: 7}}}
	l := CopyAll([]natural.Formula{f, f})
	c := CopyDerivation(d)
	if len(l) != 2 || !natural.Same(l[0], f) || c.Rule != 1 || c.Index != 2 || c.Name != "n" || c.Term.Args[0].Name != "x" || !natural.Same(c.Formula, f) || len(c.Kids) != 2 || c.Kids[1].Rule != 7 {
		t.Errorf("%v, %v", l, c)
	}
	l[0].Parts[0].Terms[0].Args[0].Name, l[0].Parts[1].Kind = "no", 9
	c.Term.Args[0].Name, c.Formula.Parts[0].Name, c.Kids[0].Formula.Parts[0].Name, c.Kids[1].Rule = "no", "no", "no", 9
	if s, _ := natural.Text(f); s != "$> P $( f $( x $) $) $A v0 $= x v0" || !natural.Same(l[1], f) || d.Term.Args[0].Name != "x" || d.Kids[1].Rule != 7 || !natural.Same(d.Kids[0].Formula, f) {
		t.Errorf("%v, %v", f, d)
	}
}

// P26.1, as both layers need it: what variables mean, the arguments of rules, and the order of modus ponens.
func TestMeanings(t *testing.T) {
	const s = "$c wff set cls |- ( ) -> e. $. $v x p C y q $. vx $f set x $. wp $f wff p $. cC $f cls C $. vy $f set y $. wq $f wff q $. " +
		"wi $a wff ( q -> p ) $. wel $a wff y e. x $. wc $a wff C $. ${ $d p x $. $d q x y $. m $e |- p $. j $e |- ( p -> q ) $. mp $a |- q $. $} ${ k $e |- ( p -> q ) $. n $e |- p $. mq $a |- q $. $} "
	l, _, _ := layout.Parse(strings.Fields(s))
	db, _, _ := frame.Database(l)
	b, e := book.Open(db)
	if e != api.OK {
		t.Fatal(e)
	}
	m := Of(b, "set", db.Frames[frame.Find(db, "mp")])
	for label, want := range map[string]string{"wp": "p $( y $)", "wq": "q"} {
		if got, _ := natural.Text(m[label].Formula); got != want {
			t.Errorf("%s: %q, want %q", label, got, want)
		}
	}
	if _, ok := m["cC"]; ok || len(m) != 4 || m["vx"].Term.Name != "x" || m["vy"].Term.Name != "y" {
		t.Errorf("%v", m)
	}
	m = Of(b, "set", db.Frames[0])
	if got, _ := natural.Text(m["wq"].Formula); got != "q $( x y $)" {
		t.Errorf("%q", got)
	}
	if m = Of(b, "", db.Frames[0]); len(m) != 2 || len(m["wp"].Formula.Terms) > 0 {
		t.Errorf("%v", m)
	}
	wi, _ := b.Rule("wi")
	wel, _ := b.Rule("wel")
	if a := Args(wi); len(a) != 2 || a[0].Arg != 1 || a[1].Arg != 0 || IsPlain(wi, "set") || !IsPlain(wel, "set") || len(Args(wel)) != 2 {
		t.Errorf("%v", a)
	}
	if !MinorFirst(b, db.Frames[frame.Find(db, "mp")]) || MinorFirst(b, db.Frames[frame.Find(db, "mq")]) {
		t.Error("the order of modus ponens")
	}
	if got := Closing(db, parsed(t, "P $( y wi x mp wp f $( y $) $)")); !slices.Equal(got, []string{"wp", "x", "y"}) {
		t.Errorf("%v", got)
	}
}
