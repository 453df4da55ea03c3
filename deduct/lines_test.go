package deduct

import (
	"math/rand"
	"slices"
	"strings"
	"testing"

	"apodixis/api"
	"apodixis/carry"
	"apodixis/natural"
)

// Derivations.
func use(n int) natural.Derivation { return natural.Derivation{Rule: natural.Assume, Index: n} }

func node(rule int, f natural.Formula, kids ...natural.Derivation) natural.Derivation {
	return natural.Derivation{Rule: rule, Formula: f, Kids: kids}
}

func out(a, b natural.Derivation) natural.Derivation {
	return natural.Derivation{Rule: natural.ImpliesOut, Kids: []natural.Derivation{a, b}}
}

func allIn(x string, d natural.Derivation) natural.Derivation {
	return natural.Derivation{Rule: natural.AllIn, Name: x, Kids: []natural.Derivation{d}}
}

func allOut(t natural.Term, d natural.Derivation) natural.Derivation {
	return natural.Derivation{Rule: natural.AllOut, Term: t, Kids: []natural.Derivation{d}}
}

func reflexive(t natural.Term) natural.Derivation {
	return natural.Derivation{Rule: natural.Reflexive, Term: t}
}

func param(x string) natural.Term { return natural.Term{Name: x} }

// doubling is N(c) behind so many lines.
func doubling(n int) string {
	number := func(k int) string { return itoa(n + k) }
	s := "s : $> [m] $> [mm] [m] ; t : [1] ; s : $> [1] $> [m] [1] ; m " + number(1) + " " + number(2) + " : $> [m] [1]" +
		" ; f : $> $> [m] [1] $> $> [m] $> [mm] [m] $> [m] $> [n] [nm] ; m " + number(3) + " " + number(4) + " : $> $> [m] $> [mm] [m] $> [m] $> [n] [nm]" +
		" ; m " + number(0) + " " + number(5) + " : $> [m] $> [n] [nm] ; t : [7] ; s : $> [7] $> [m] [7] ; m " + number(7) + " " + number(8) + " : $> [m] [7]" +
		" ; f : $> $> [m] [7] $> $> [m] $> [n] [nm] $> [m] $> [m] c ; m " + number(9) + " " + number(10) + " : $> $> [m] $> [n] [nm] $> [m] $> [m] c" +
		" ; m " + number(6) + " " + number(11) + " : $> [m] $> [m] c ; f : $> $> [m] $> [m] c $> $> [m] [m] $> [m] c" +
		" ; m " + number(12) + " " + number(13) + " : $> $> [m] [m] $> [m] c ; " + same("[m]", n+15) + " ; m " + number(19) + " " + number(14) + " : $> [m] c"
	for _, pair := range [][2]string{{"[1]", "$> $> [mm] [m] $> [n] [nm]"}, {"[7]", "$> $> [n] [nm] $> [m] c"}, {"[mm]", "$> [nm] $F"}, {"[nm]", "$> [m] $F"}, {"[m]", "$> [n] $F"}, {"[n]", "$> c $F"}} {
		s = strings.ReplaceAll(s, pair[0], pair[1])
	}
	return s
}

// P27.1, P27.3: the lines of each rule, one by one.
func TestLines(t *testing.T) {
	c, h, a := parsed(t, "c"), parsed(t, "h"), param("a")
	no := natural.Formula{Kind: natural.False}
	for name, x := range map[string]struct {
		d           natural.Derivation
		assumptions string
		want        string
	}{
		"the last assumption":        {use(0), "p ; q", "1 : q"},
		"the first one":              {use(1), "p ; q", "0 : p"},
		"ImpliesIn":                  {node(natural.ImpliesIn, h, use(0)), "", same("h", 0)},
		"ImpliesIn, not used":        {node(natural.ImpliesIn, h, use(1)), "p", "0 : p ; s : $> p $> h p ; m 0 1 : $> h p"},
		"ImpliesIn twice":            {node(natural.ImpliesIn, h, node(natural.ImpliesIn, c, use(2))), "p", "0 : p ; s : $> p $> c p ; m 0 1 : $> c p ; s : $> $> c p $> h $> c p ; m 2 3 : $> h $> c p"},
		"ImpliesOut":                 {out(use(1), use(0)), "$> p q ; p", "1 : p ; 0 : $> p q ; m 0 1 : q"},
		"ImpliesOut of others":       {out(use(1), out(use(1), use(0))), "$> p p ; p", "1 : p ; 0 : $> p p ; m 0 1 : p ; 0 : $> p p ; m 2 3 : p"},
		"ImpliesOut of an ImpliesIn": {out(node(natural.ImpliesIn, h, use(1)), reflexive(a)), "", ""},
		"FalseOut":                   {node(natural.FalseOut, c, use(0)), "$F", "0 : $F ; s : $> $F $> $> c $F $F ; m 0 1 : $> $> c $F $F ; " + doubling(3) + " ; m 2 23 : c"},
		"Classic":                    {node(natural.Classic, c, use(1)), "$F", "0 : $F ; s : $> $F $> $> c $F $F ; m 0 1 : $> $> c $F $F ; " + doubling(3) + " ; m 2 23 : c"},
		"AllIn":                      {allIn("a", reflexive(a)), "", "r : $= a a ; g 0 a : $A x $= x x"},
		"AllIn of an assumption":     {allIn("b", use(0)), "$= a a", "0 : $= a a ; g 0 b : $A x $= a a"},
		"AllOut":                     {allOut(a, use(0)), "$A x P $( x b $)", "0 : $A x P $( x b $) ; p a : $> $A x P $( x b $) P $( a b $) ; m 0 1 : P $( a b $)"},
		"Reflexive":                  {reflexive(natural.Term{Name: "f", Args: []natural.Term{a, a}}), "p", "r : $= f $( a a $) f $( a a $)"},
		"Replace":                    {node(natural.Replace, natural.Formula{Kind: natural.Equal, Terms: []natural.Term{{}, param("z")}}, use(1), use(0)), "$= x y ; $= x z", "1 : $= x z ; 0 : $= x y ; e : $> $= x y $> $= x z $= y z ; m 1 2 : $> $= x z $= y z ; m 0 3 : $= y z"},
		"Replace of a term":          {node(natural.Replace, natural.Formula{Kind: natural.Equal, Terms: []natural.Term{{}, {Name: "f", Args: []natural.Term{a}}}}, use(1), use(0)), "$= x y ; $= x f $( a $)", "1 : $= x f $( a $) ; 0 : $= x y ; e : $> $= x y $> $= x f $( a $) $= y f $( a $) ; m 1 2 : $> $= x f $( a $) $= y f $( a $) ; m 0 3 : $= y f $( a $)"},
		"a contradiction":            {node(natural.ImpliesIn, not(not(c)), node(natural.Classic, c, out(use(1), use(0)))), "", ""},
		"under an assumption":        {node(natural.ImpliesIn, h, allIn("a", reflexive(a))), "p", "r : $= a a ; g 0 a : $A x $= x x ; s : $> $A x $= x x $> h $A x $= x x ; m 1 2 : $> h $A x $= x x"},
		"False for what follows":     {node(natural.ImpliesIn, no, node(natural.FalseOut, c, use(0))), "", ""},
		"of another assumption":      {node(natural.ImpliesIn, h, allIn("a", use(0))), "p", same("h", 0) + " ; g 4 a : $A x $> h h ; d : $> $A x $> h h $> $A x h $A x h ; m 5 6 : $> $A x h $A x h ; s : $> $> $A x h $A x h $> h $> $A x h $A x h ; m 7 8 : $> h $> $A x h $A x h ; f : $> $> h $> $A x h $A x h $> $> h $A x h $> h $A x h ; m 9 10 : $> $> h $A x h $> h $A x h ; v : $> h $A x h ; m 12 11 : $> h $A x h"},
	} {
		assumptions := formulas(t, x.assumptions)
		got, e := Lines(logic(), assumptions, x.d)
		want, _, wrong := natural.Check(nil, assumptions, x.d)
		if e != wrong || e != api.OK && name != "ImpliesOut of an ImpliesIn" {
			t.Errorf("%s: %d, %d by the kernel", name, e, wrong)
			continue
		}
		if x.want != "" && !sameLines(got, lines(t, x.want)) {
			t.Errorf("%s: %s, want %s", name, written(t, got), x.want)
		}
		if e == api.OK {
			checkLines(t, logic(), assumptions, got, want)
		}
		if model, e := linesModel(logic(), assumptions, x.d); e != wrong || !sameLines(got, model) {
			t.Errorf("%s: %s, but the model %s, %d", name, written(t, got), written(t, model), e)
		}
	}
}

// checkLines checks P27.3.
func checkLines(t *testing.T, l carry.Logic, assumptions []natural.Formula, got []Line, want natural.Formula) {
	t.Helper()
	if n, e := Check(l, got, assumptions); e != api.OK || !natural.Same(got[len(got)-1].Formula, want) {
		t.Fatalf("%s: %d at %d", written(t, got), e, n)
	}
	trimmed, e := Trim(got)
	if e != api.OK || len(trimmed) > len(got) || !natural.Same(trimmed[len(trimmed)-1].Formula, want) {
		t.Fatalf("%s: trimmed %s, %d", written(t, got), written(t, trimmed), e)
	}
	if n, e := Check(l, trimmed, assumptions); e != api.OK {
		t.Fatalf("%s: trimmed %s: %d at %d", written(t, got), written(t, trimmed), e, n)
	}
	if again, e := Trim(trimmed); e != api.OK || !sameLines(again, trimmed) {
		t.Fatalf("%s: trimmed twice %s, %d", written(t, trimmed), written(t, again), e)
	}
	// Each formula stands once, and each line is needed.
	needed := map[int]bool{len(trimmed) - 1: true}
	for n, x := range slices.Backward(trimmed) {
		for _, from := range x.From {
			needed[from] = needed[from] || x.Label != "" && needed[n]
		}
		if !needed[n] || slices.ContainsFunc(trimmed[:n], func(y Line) bool { return natural.Same(x.Formula, y.Formula) }) {
			t.Fatalf("%s: the line %d", written(t, trimmed), n)
		}
	}
}

// P27.1: the errors of Lines, and which one comes first.
func TestLinesErrors(t *testing.T) {
	l := logic()
	without := func(field func(l *carry.Logic) *string, label string) carry.Logic {
		x := logic()
		*field(&x) = label
		return x
	}
	noSimp := without(func(l *carry.Logic) *string { return &l.Simp }, "")
	noFrege := without(func(l *carry.Logic) *string { return &l.Frege }, "")
	noMp := without(func(l *carry.Logic) *string { return &l.Mp }, "")
	noGen := without(func(l *carry.Logic) *string { return &l.Gen }, "")
	noSpec := without(func(l *carry.Logic) *string { return &l.Spec }, "")
	noRefl := without(func(l *carry.Logic) *string { return &l.Refl }, "")
	noEucl := without(func(l *carry.Logic) *string { return &l.Eucl }, "")
	noTransp := without(func(l *carry.Logic) *string { return &l.Transp }, "")
	genIsMp := without(func(l *carry.Logic) *string { return &l.Gen }, "m")
	p, q, c, a := parsed(t, "p"), parsed(t, "q"), parsed(t, "c"), param("a")
	equation := func(l ...natural.Term) natural.Formula { return natural.Formula{Kind: natural.Equal, Terms: l} }
	all := parsed(t, "$A x P $( x b $)")
	and := node(natural.AndIn, p, use(0), use(0))
	for name, x := range map[string]struct {
		l           carry.Logic
		assumptions []natural.Formula
		d           natural.Derivation
		want        api.Errno
	}{
		"an assumption of no form":          {l, []natural.Formula{p, {}}, use(0), api.ErrForm},
		"no rule":                           {l, nil, natural.Derivation{}, natural.ErrRule},
		"no assumption":                     {l, nil, use(0), natural.ErrAssume},
		"a theory":                          {l, []natural.Formula{p}, natural.Derivation{Rule: natural.Axiom}, natural.ErrAssume},
		"a wrong premise":                   {l, []natural.Formula{p}, out(use(0), use(0)), natural.ErrPremise},
		"a wrong one behind a fragment":     {l, []natural.Formula{p}, node(natural.AndIn, p, use(0), use(1)), natural.ErrAssume},
		"AndIn":                             {l, []natural.Formula{p}, and, ErrFragment},
		"AndFirst":                          {l, []natural.Formula{parsed(t, "$& p q")}, node(natural.AndFirst, p, use(0)), ErrFragment},
		"AndSecond":                         {l, []natural.Formula{parsed(t, "$& p q")}, node(natural.AndSecond, p, use(0)), ErrFragment},
		"OrFirst":                           {l, []natural.Formula{p}, node(natural.OrFirst, q, use(0)), ErrFragment},
		"OrSecond":                          {l, []natural.Formula{p}, node(natural.OrSecond, q, use(0)), ErrFragment},
		"OrOut":                             {l, []natural.Formula{p, parsed(t, "$| p q")}, node(natural.OrOut, p, use(0), use(2), use(2)), ErrFragment},
		"SomeIn":                            {l, []natural.Formula{p}, natural.Derivation{Rule: natural.SomeIn, Formula: parsed(t, "$E x p"), Term: a, Kids: []natural.Derivation{use(0)}}, ErrFragment},
		"SomeOut":                           {l, []natural.Formula{p, parsed(t, "$E x p")}, natural.Derivation{Rule: natural.SomeOut, Name: "a", Kids: []natural.Derivation{use(0), use(2)}}, ErrFragment},
		"in a Kid":                          {l, []natural.Formula{p}, node(natural.ImpliesIn, q, node(natural.AndFirst, p, node(natural.AndIn, p, use(1), use(0)))), ErrFragment},
		"AllOut with a function":            {l, []natural.Formula{all}, allOut(natural.Term{Name: "f", Args: []natural.Term{a}}, use(0)), ErrFragment},
		"AllOut with a parameter":           {l, []natural.Formula{all}, allOut(param("b"), use(0)), ErrFragment},
		"AllOut":                            {l, []natural.Formula{all}, allOut(a, use(0)), api.OK},
		"Replace of an atom":                {l, []natural.Formula{equation(a, a), p}, node(natural.Replace, p, use(1), use(0)), ErrFragment},
		"Replace of a parameter":            {l, []natural.Formula{equation(a, a), equation(a, a)}, node(natural.Replace, equation(a, natural.Term{}), use(1), use(0)), ErrFragment},
		"Replace of two":                    {l, []natural.Formula{equation(a, a), equation(a, a)}, node(natural.Replace, equation(natural.Term{}, natural.Term{}), use(1), use(0)), ErrFragment},
		"Replace in a function":             {l, []natural.Formula{equation(a, a), equation(a, natural.Term{Name: "f", Args: []natural.Term{a}})}, node(natural.Replace, equation(natural.Term{}, natural.Term{Name: "f", Args: []natural.Term{{}}}), use(1), use(0)), ErrFragment},
		"Replace of a function":             {l, []natural.Formula{equation(a, a), equation(natural.Term{Name: "f", Args: []natural.Term{a}}, a)}, node(natural.Replace, equation(natural.Term{Name: "f", Args: []natural.Term{{}}}, a), use(1), use(0)), ErrFragment},
		"ImpliesOut without Mp":             {noMp, []natural.Formula{parsed(t, "$> p q"), p}, out(use(1), use(0)), ErrFragment},
		"an assumption without Mp":          {noMp, []natural.Formula{p}, use(0), api.OK},
		"AllIn without Gen":                 {noGen, nil, allIn("a", reflexive(a)), ErrFragment},
		"AllIn with another Gen":            {genIsMp, nil, allIn("a", reflexive(a)), ErrFragment},
		"AllOut without Spec":               {noSpec, []natural.Formula{all}, allOut(a, use(0)), ErrFragment},
		"AllOut without Mp":                 {noMp, []natural.Formula{all}, allOut(a, use(0)), ErrFragment},
		"Reflexive without Refl":            {noRefl, nil, reflexive(a), ErrFragment},
		"Replace without Eucl":              {noEucl, []natural.Formula{equation(a, a), equation(a, a)}, node(natural.Replace, equation(natural.Term{}, a), use(1), use(0)), ErrFragment},
		"ImpliesIn without Simp":            {noSimp, nil, node(natural.ImpliesIn, p, use(0)), ErrFragment},
		"ImpliesIn without Frege":           {noFrege, []natural.Formula{q}, node(natural.ImpliesIn, p, use(1)), api.OK},
		"Classic without Transp":            {noTransp, []natural.Formula{{Kind: natural.False}}, node(natural.Classic, c, use(1)), ErrFragment},
		"FalseOut without Transp":           {noTransp, []natural.Formula{{Kind: natural.False}}, node(natural.FalseOut, c, use(0)), ErrFragment},
		"a parameter that is generalized":   {l, nil, node(natural.ImpliesIn, parsed(t, "P $( x $)"), allIn("x", reflexive(param("x")))), natural.ErrFresh},
		"a conclusion that is too deep":     {l, nil, node(natural.ImpliesIn, deep(100), use(0)), api.ErrLarge},
		"a line that is too deep":           {l, nil, node(natural.ImpliesIn, deep(97), use(0)), api.ErrLarge},
		"a line that is not":                {l, nil, node(natural.ImpliesIn, deep(96), use(0)), api.OK},
		"a hypothesis that is too deep":     {l, []natural.Formula{{Kind: natural.False}}, node(natural.Classic, deep(100), use(1)), api.ErrSize},
		"one of FalseOut":                   {l, []natural.Formula{{Kind: natural.False}}, node(natural.FalseOut, deep(100), use(0)), api.ErrSize},
		"one that is not":                   {l, []natural.Formula{{Kind: natural.False}}, node(natural.FalseOut, deep(99), use(0)), api.ErrLarge},
		"an instance of Spec":               {l, []natural.Formula{{Kind: natural.All, Parts: []natural.Formula{deep(99)}}}, allOut(a, use(0)), api.ErrLarge},
		"the node ahead of its Kids":        {l, []natural.Formula{p}, node(natural.AndIn, p, node(natural.ImpliesIn, deep(97), use(0)), use(0)), ErrFragment},
		"the Kids of AllOut ahead":          {l, []natural.Formula{p}, allOut(natural.Term{Name: "f", Args: []natural.Term{a}}, allIn("b", node(natural.ImpliesIn, deep(97), use(0)))), api.ErrLarge},
		"the second Kid of ImpliesOut":      {l, []natural.Formula{p}, out(node(natural.ImpliesIn, p, node(natural.AndIn, p, use(0), use(0))), out(node(natural.ImpliesIn, imp(deep(97), deep(97)), use(1)), node(natural.ImpliesIn, deep(97), use(0)))), api.ErrLarge},
		"its first Kid":                     {l, []natural.Formula{p}, out(node(natural.ImpliesIn, parsed(t, "$& p p"), use(0)), and), ErrFragment},
		"the second Kid of Replace":         {l, []natural.Formula{p, equation(a, a)}, node(natural.Replace, equation(natural.Term{}, a), out(node(natural.ImpliesIn, parsed(t, "$& p p"), use(1)), node(natural.AndIn, p, use(1), use(1))), out(node(natural.ImpliesIn, imp(deep(97), deep(97)), use(1)), node(natural.ImpliesIn, deep(97), use(0)))), api.ErrLarge},
		"Replace ahead of its Kids":         {l, []natural.Formula{p, equation(a, a)}, node(natural.Replace, equation(a, natural.Term{}), use(0), out(node(natural.ImpliesIn, imp(deep(97), deep(97)), use(1)), node(natural.ImpliesIn, deep(97), use(0)))), ErrFragment},
		"Gen over a parameter of Classic's": {l, nil, node(natural.Classic, parsed(t, "P $( x $)"), out(node(natural.ImpliesIn, parsed(t, "$A y $= y y"), use(1)), allIn("x", reflexive(param("x"))))), natural.ErrFresh},
	} {
		got, e := Lines(x.l, x.assumptions, x.d)
		if e != x.want || (len(got) == 0) != (e != api.OK) {
			t.Errorf("%s: %d, want %d", name, e, x.want)
		}
		if model, wrong := linesModel(x.l, x.assumptions, x.d); wrong != e || !sameLines(got, model) {
			t.Errorf("%s: the model: %d, want %d", name, wrong, e)
		}
	}
}

// P27.1: 2000 lines, and more; where two lists are put together.
func TestLinesLimits(t *testing.T) {
	p := parsed(t, "p")
	chain := func(n int) natural.Derivation { // 2 n + 1 lines
		d := use(0)
		for range n {
			d = out(use(1), d)
		}
		return d
	}
	assumptions := formulas(t, "$> p p ; p")
	for n, want := range map[int]api.Errno{999: api.OK, 1000: natural.ErrRule} {
		got, e := Lines(logic(), assumptions, chain(n))
		if n == 1000 {
			want = api.ErrSize // the depth is 1001
		}
		if e != want || e == api.OK && len(got) != 2*n+1 {
			t.Errorf("%d lines: %d, %d, want %d", 2*n+1, len(got), e, want)
		}
	}
	// An implication with k lines, and what it is applied to: k + 2 n + 2 lines.
	implication := node(natural.ImpliesIn, p, use(0)) // 5 lines
	for name, x := range map[string]struct {
		d    natural.Derivation
		want int
		e    api.Errno
	}{
		"1999 lines":     {out(implication, chain(996)), 5 + 1993 + 1, api.OK},
		"2001 lines":     {out(implication, chain(997)), 0, api.ErrLarge},
		"2000 and an Mp": {out(out(node(natural.ImpliesIn, parsed(t, "$= a a"), use(2)), reflexive(param("a"))), chain(995)), 3 + 2 + 1991 + 1, api.OK},
		"2000 lines":     {allIn("b", out(implication, chain(996))), 2000, api.OK},
		"a Gen more":     {allIn("b", allIn("b", out(implication, chain(996)))), 0, api.ErrLarge},
	} {
		got, e := Lines(logic(), assumptions, x.d)
		if e != x.e || len(got) != x.want {
			t.Errorf("%s: %d, %d, want %d, %d", name, len(got), e, x.want, x.e)
		}
		if model, wrong := linesModel(logic(), assumptions, x.d); wrong != e || !sameLines(got, model) {
			t.Errorf("%s: the model: %d, want %d", name, wrong, e)
		}
	}
	// A label that lacks is found before there are too many lines, and behind.
	noGen := logic()
	noGen.Gen = ""
	if _, e := Lines(noGen, assumptions, allIn("b", allIn("b", out(implication, chain(996))))); e != ErrFragment {
		t.Errorf("no Gen: %d", e)
	}
	if _, e := Lines(noGen, assumptions, allIn("b", out(implication, chain(997)))); e != api.ErrLarge {
		t.Errorf("no Gen, too late: %d", e)
	}
}

// maker makes random derivations of the fragment.
type maker struct{ *rand.Rand }

func (m maker) pick(words string) string {
	l := strings.Fields(words)
	return l[m.Intn(len(l))]
}

// formula returns a random formula.
func (m maker) formula(depth int) natural.Formula {
	kind := m.Intn(6)
	if depth == 0 {
		kind = m.Intn(3)
	}
	term := func() natural.Term { return param(m.pick("x y z")) }
	switch kind {
	case 0:
		return natural.Formula{Kind: natural.Atom, Name: m.pick("p q")}
	case 1:
		return natural.Formula{Kind: natural.Atom, Name: "P", Terms: []natural.Term{term()}}
	case 2:
		if m.Intn(3) == 0 {
			return natural.Formula{Kind: natural.False}
		}
		return equal(term(), term())
	case 3:
		f, _ := natural.Abstract(natural.All, m.formula(depth-1), m.pick("x y z"))
		return f
	}
	return imp(m.formula(depth-1), m.formula(depth-1))
}

// derivation returns a random derivation that the kernel accepts, and its conclusion.
func (m maker) derivation(open []natural.Formula, depth int) (natural.Derivation, natural.Formula) {
	for {
		d := m.step(open, depth)
		if f, _, e := natural.Check(nil, open, d); e == api.OK {
			return d, f
		}
	}
}

func (m maker) step(open []natural.Formula, depth int) natural.Derivation {
	if depth == 0 {
		if len(open) > 0 && m.Intn(4) > 0 {
			return use(m.Intn(len(open)))
		}
		return reflexive(param(m.pick("x y z")))
	}
	d, f := m.derivation(open, depth-1)
	under := func(f natural.Formula) natural.Derivation {
		d, _ := m.derivation(append(slices.Clone(open), f), depth-1)
		return d
	}
	g := m.formula(1)
	switch m.Intn(9) {
	case 0, 1:
		return node(natural.ImpliesIn, g, under(g))
	case 2, 3:
		for n, h := range slices.Backward(open) {
			if h.Kind == natural.Implies && natural.Same(h.Parts[0], f) {
				return out(use(len(open)-1-n), d)
			}
		}
		return out(node(natural.ImpliesIn, f, under(f)), d)
	case 4:
		return allIn(m.pick("x y z"), d)
	case 5:
		return allOut(param(m.pick("x y z a")), d)
	case 6:
		return node(natural.FalseOut, g, d)
	case 7:
		return node(natural.Classic, g, under(not(g)))
	}
	second, h := m.derivation(open, depth-1)
	if h.Kind != natural.Equal {
		return natural.Derivation{}
	}
	return node(natural.Replace, natural.Formula{Kind: natural.Equal, Terms: []natural.Term{{}, h.Terms[1]}}, d, second)
}

// P27.2, P27.3: random derivations become lines as the model does it; these follow, and so do what Lift and Trim make of them.
func TestRandomLines(t *testing.T) {
	codes, most := map[api.Errno]int{}, 0
	for seed := range 800 {
		m := maker{rand.New(rand.NewSource(int64(seed)))}
		var open []natural.Formula
		for range m.Intn(5) {
			open = append(open, m.formula(2))
		}
		if len(open) > 1 && m.Intn(2) == 0 {
			open = append(open, imp(open[0], open[1]), not(open[0]))
		}
		d, f := m.derivation(open, m.Intn(6))
		l := logic()
		if m.Intn(4) == 0 {
			for _, field := range []*string{&l.Mp, &l.Gen, &l.Simp, &l.Frege, &l.Transp, &l.Dist, &l.Vacuous, &l.Spec, &l.Refl, &l.Eucl} {
				if m.Intn(10) == 0 {
					*field = m.pick("g s f d unknown")
				}
			}
		}
		got, e := Lines(l, open, d)
		model, wrong := linesModel(l, open, d)
		if e != wrong || !sameLines(got, model) {
			t.Fatalf("%d: %s, %d, want %s, %d", seed, written(t, got), e, written(t, model), wrong)
		}
		codes[e]++
		if e != api.OK {
			continue
		}
		most = max(most, len(got))
		checkLines(t, l, open, got, f)
		if len(open) == 0 {
			continue
		}
		lifted, e := Lift(l, got, open)
		model, wrong = liftModel(l, got, open)
		if e != wrong || !sameLines(lifted, model) {
			t.Fatalf("%d: lifted %s, %d, want %s, %d", seed, written(t, lifted), e, written(t, model), wrong)
		}
		if e == api.OK {
			checkLifted(t, l, got, open, lifted)
		}
	}
	if codes[api.OK] < 400 || codes[ErrFragment] < 20 || most < 100 {
		t.Errorf("%v, at most %d lines", codes, most)
	}
}

// R4: arguments do not change, and results are new memory.
func TestMemory(t *testing.T) {
	given, hyps := lines(t, "0 : k ; 1 : h ; s : $> h $> k h ; m 1 2 : $> k h ; m 0 3 : h ; m 1 2 : $> k h"), formulas(t, "k ; h")
	before := written(t, given)
	d := node(natural.ImpliesIn, hyps[0], allOut(param("a"), allIn("x", use(0))))
	spoil := func(l []Line) {
		for n := range l {
			var walk func(f *natural.Formula)
			walk = func(f *natural.Formula) {
				f.Kind, f.Name = f.Kind+1, "no"
				for i := range f.Terms {
					f.Terms[i].Name = "no"
				}
				for i := range f.Parts {
					walk(&f.Parts[i])
				}
			}
			walk(&l[n].Formula)
			for i := range l[n].From {
				l[n].From[i]++
			}
		}
	}
	for range 2 {
		a, e := Lift(logic(), given, hyps)
		want, _ := liftModel(logic(), given, hyps)
		for n := range a {
			if !sameLines(a[n:n+1], want[n:n+1]) {
				t.Fatalf("the line %d shares memory", n)
			}
			spoil(a[n : n+1])
		}
		b, f := Lines(logic(), hyps, d)
		want, _ = linesModel(logic(), hyps, d)
		for n := range b {
			if !sameLines(b[n:n+1], want[n:n+1]) {
				t.Fatalf("the line %d shares memory", n)
			}
			spoil(b[n : n+1])
		}
		c, g := Trim(given)
		spoil(c)
		if e != api.OK || f != api.OK || g != api.OK {
			t.Fatal(e, f, g)
		}
		if written(t, given) != before || text(t, hyps[0]) != "k" || text(t, hyps[1]) != "h" || text(t, d.Formula) != "k" {
			t.Fatalf("arguments changed: %s", written(t, given))
		}
	}
}
