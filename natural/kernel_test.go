package natural

import (
	"slices"
	"strconv"
	"strings"
	"testing"

	"apodixis/api"
)

// derivation reads a derivation of rules by their names, with what they use and their Kids in brackets, such as "in{p}(0)": a number is Assume, $ and a number Axiom.
func derivation(t *testing.T, s string) Derivation {
	t.Helper()
	rules := map[string]int{
		"in": ImpliesIn, "out": ImpliesOut, "and": AndIn, "fst": AndFirst, "snd": AndSecond, "inl": OrFirst, "inr": OrSecond, "case": OrOut,
		"absurd": FalseOut, "classic": Classic, "all": AllIn, "at": AllOut, "some": SomeIn, "let": SomeOut, "refl": Reflexive, "rep": Replace,
	}
	var read func() Derivation
	read = func() Derivation {
		end := strings.IndexAny(s, "{(,)")
		if end < 0 {
			end = len(s)
		}
		word := s[:end]
		s = s[end:]
		d := Derivation{Rule: rules[word]}
		if n, e := strconv.Atoi(strings.TrimPrefix(word, "$")); e == nil {
			d.Rule, d.Index = Assume, n
			if word[0] == '$' {
				d.Rule = Axiom
			}
		}
		if d.Rule == 0 {
			t.Fatalf("no rule %q", word)
		}
		for strings.HasPrefix(s, "{") {
			text, rest, _ := strings.Cut(s[1:], "}")
			s = rest
			switch d.Rule {
			case AllIn, SomeOut:
				d.Name = text
			case AllOut, Reflexive:
				d.Term = parsed(t, "t $( "+text+" $)").Terms[0]
			case Replace: // the variable of the template is _
				d.Formula = parsed(t, "$A _ "+text).Parts[0]
			case SomeIn:
				if d.Formula.Kind == 0 {
					d.Formula = parsed(t, text)
				} else {
					d.Term = parsed(t, "t $( "+text+" $)").Terms[0]
				}
			default:
				d.Formula = parsed(t, text)
			}
		}
		for sign := "("; strings.HasPrefix(s, sign); sign = "," {
			s = s[1:]
			d.Kids = append(d.Kids, read())
		}
		if len(d.Kids) > 0 {
			s = s[1:]
		}
		return d
	}
	return read()
}

// formulas returns the formulas of texts with a semicolon between them.
func formulas(t *testing.T, s string) []Formula {
	t.Helper()
	var l []Formula
	for _, text := range strings.Split(s, ";") {
		if strings.TrimSpace(text) != "" {
			l = append(l, parsed(t, text))
		}
	}
	return l
}

// P25.1: each rule with right premises and with wrong ones, and where the error is.
func TestRules(t *testing.T) {
	const px, all, some = "P $( x $)", "$A y P $( y $)", "$E y P $( y $)"
	for _, x := range []struct {
		theory, assumptions, d string
		want                   string // the conclusion, or
		e                      api.Errno
		path                   string
	}{
		// Assume and Axiom: the last assumption is 0, the first formula of the theory is 0.
		{"", "p ; q ; r", "0", "r", 0, ""},
		{"", "p ; q ; r", "2", "p", 0, ""},
		{"", "p ; q ; r", "3", "", ErrAssume, ""},
		{"", "p ; q ; r", "-1", "", ErrAssume, ""},
		{"", "", "0", "", ErrAssume, ""},
		{"p ; q", "r", "$0", "p", 0, ""},
		{"p ; q", "r", "$1", "q", 0, ""},
		{"p ; q", "r", "$2", "", ErrAssume, ""},
		{"p ; q", "r", "$-1", "", ErrAssume, ""},
		{"", "r", "$0", "", ErrAssume, ""},
		// ImpliesIn and ImpliesOut.
		{"", "", "in{p}(0)", "$> p p", 0, ""},
		{"", "q", "in{p}(1)", "$> p q", 0, ""},
		{"", "", "in{p}(in{q}(1))", "$> p $> q p", 0, ""},
		{"", "", "in{p}(1)", "", ErrAssume, "0"},
		{"", "$> p q ; p", "out(1,0)", "q", 0, ""},
		{"", "$> p q ; p", "out(0,1)", "", ErrPremise, ""},
		{"", "$> p q ; q", "out(1,0)", "", ErrPremise, ""},
		{"", "$& p q ; p", "out(1,0)", "", ErrPremise, ""},
		{"", "$> p q ; p", "out(1,2)", "", ErrAssume, "1"},
		{"", "$> p q ; p", "out(2,3)", "", ErrAssume, "0"},
		{"", all + " ; $> $A z P $( z $) q", "out(0,1)", "q", 0, ""},
		{"", "q", "and(in{p}(0),1)", "", ErrAssume, "1"}, // an assumption is open in its Kid alone
		// And.
		{"", "p ; q", "and(0,1)", "$& q p", 0, ""},
		{"", "$& p q", "fst(0)", "p", 0, ""},
		{"", "$& p q", "snd(0)", "q", 0, ""},
		{"", "$| p q", "fst(0)", "", ErrPremise, ""},
		{"", "p", "snd(0)", "", ErrPremise, ""},
		{"", "p", "and(0,fst(0))", "", ErrPremise, "1"},
		// Or.
		{"", "p", "inl{q}(0)", "$| p q", 0, ""},
		{"", "p", "inr{q}(0)", "$| q p", 0, ""},
		{"", "$| p q", "case(0,inr{q}(0),inl{p}(0))", "$| q p", 0, ""},
		{"", "$| p q", "case(0,inl{q}(0),inl{p}(0))", "", ErrPremise, ""},
		{"", "$| p q", "case(0,inl{q}(0),inr{p}(0))", "$| p q", 0, ""},
		{"", "$| p q ; r", "case(1,1,1)", "r", 0, ""},
		{"", "$& p q ; r", "case(1,1,1)", "", ErrPremise, ""},
		{"", "r", "case(0,9,9)", "", ErrPremise, ""}, // behind the first Kid
		{"", "$| p q", "case(0,9,8)", "", ErrAssume, "1"},
		{"", "$| p q", "case(0,0,8)", "", ErrAssume, "2"},
		{"", "$| p q", "case(1,9,9)", "", ErrAssume, "0"},
		// False.
		{"", "$F", "absurd{p}(0)", "p", 0, ""},
		{"", "p", "absurd{p}(0)", "", ErrPremise, ""},
		{"", "$> $> p $F $F", "classic{p}(out(1,0))", "p", 0, ""},
		{"", "$F", "classic{p}(1)", "p", 0, ""},
		{"", "p", "classic{p}(1)", "", ErrPremise, ""},
		{"", "p", "classic{p}(0)", "", ErrPremise, ""},
		// All.
		{"", "", "all{x}(refl{x})", "$A v0 $= v0 v0", 0, ""},
		{"", "", "all{x}(in{" + px + "}(0))", "$A v0 $> P $( v0 $) P $( v0 $)", 0, ""},
		{"", px, "all{x}(0)", "", ErrFresh, ""},
		{px, "", "all{x}($0)", "", ErrFresh, ""},
		{px, "", "all{x}(refl{y})", "", ErrFresh, ""},
		{"", px, "all{y}(0)", "$A v0 P $( x $)", 0, ""},
		{"", "", "in{" + px + "}(all{x}(0))", "", ErrFresh, "0"},
		{"", "", "in{" + px + "}(all{x}(7))", "", ErrAssume, "0 0"},
		{"", "p", "all{p}(0)", "$A v0 p", 0, ""}, // an atom is no parameter
		{"", "P $( x $( y $) $)", "all{x}(0)", "$A v0 P $( x $( y $) $)", 0, ""},
		{"", all, "at{a}(0)", "P $( a $)", 0, ""},
		{"", all, "at{f $( a $)}(0)", "P $( f $( a $) $)", 0, ""},
		{"", some, "at{a}(0)", "", ErrPremise, ""},
		{"", px, "at{a}(0)", "", ErrPremise, ""},
		{"", "$A x $A y $= x y", "all{b}(at{b}(at{a}(0)))", "$A v0 $= a v0", 0, ""},
		// Some.
		{"", px, "some{" + some + "}{x}(0)", "$E v0 P $( v0 $)", 0, ""},
		{"", px, "some{$E y P $( x $)}{a}(0)", "$E v0 P $( x $)", 0, ""},
		{"", px, "some{" + some + "}{y}(0)", "", ErrPremise, ""},
		{"", px, "some{" + all + "}{x}(0)", "", ErrPremise, ""},
		{"", px, "some{" + all + "}{x}(1)", "", ErrAssume, "0"},
		{"", "$= x x", "and(some{$E y $= y x}{x}(0),some{$E y $= x y}{x}(0))", "$& $E v0 $= v0 x $E v0 $= x v0", 0, ""},
		{"", some, "let{a}(0,some{" + some + "}{a}(0))", "$E v0 P $( v0 $)", 0, ""},
		{"", some + " ; q", "let{a}(1,1)", "q", 0, ""},
		{"", some + " ; q", "let{a}(0,1)", "", ErrPremise, ""},
		{"", all + " ; q", "let{a}(1,9)", "", ErrPremise, ""},
		{"", some, "let{a}(0,0)", "", ErrFresh, ""}, // a parameter of C
		{"", some + " ; Q $( a $) ; q", "let{a}(2,9)", "", ErrFresh, ""},
		{"Q $( a $)", some, "let{a}(0,9)", "", ErrFresh, ""},
		{"", "$> q $E y $= y a ; q", "let{a}(out(1,0),9)", "", ErrFresh, ""},
		{"", "", "in{$E y $= y a}(let{a}(0,9))", "", ErrFresh, "0"},
		{"", "", "out(in{q}(refl{b}),let{b}(in{q}(0),9))", "", ErrPremise, "1"},
		{"", some, "let{a}(0,9)", "", ErrAssume, "1"},
		{"", some, "let{a}(9,9)", "", ErrAssume, "0"},
		{"", some, "let{P}(0,some{" + some + "}{P}(0))", "$E v0 P $( v0 $)", 0, ""},
		// Equations.
		{"", "", "refl{f $( x $)}", "$= f $( x $) f $( x $)", 0, ""},
		{"", "$= x y ; " + px, "rep{P $( _ $)}(1,0)", "P $( y $)", 0, ""},
		{"", "$= x y ; $= x x", "rep{$= _ x}(1,0)", "$= y x", 0, ""},
		{"", "$= x y ; $= x x", "rep{$= _ _}(1,0)", "$= y y", 0, ""},
		{"", "$= x y ; q", "rep{q}(1,0)", "q", 0, ""},
		{"", "$= x y ; P $( y $)", "rep{P $( _ $)}(1,0)", "", ErrPremise, ""},
		{"", "$> p q ; q", "rep{q}(1,0)", "", ErrPremise, ""},
		{"", "$= x y ; q", "rep{q}(0,1)", "", ErrPremise, ""},
		{"", "$= x y ; q", "rep{q}(2,3)", "", ErrAssume, "0"},
		{"", "$= f $( a $) b ; $A x $= x f $( a $)", "rep{$A x $= x _}(1,0)", "$A v0 $= v0 b", 0, ""},
	} {
		d := derivation(t, x.d)
		f, path, e := Check(formulas(t, x.theory), formulas(t, x.assumptions), d)
		got := ""
		if e == api.OK {
			got = written(t, f)
		}
		if e != x.e || got != x.want || places(path) != x.path || (e == api.OK) == isZero(f) {
			t.Errorf("%q from %q and %q: %q, %d at %q, want %q, %d at %q", x.d, x.theory, x.assumptions, got, e, places(path), x.want, x.e, x.path)
		}
	}
}

// places returns a path as a text.
func places(path []int) string {
	var l []string
	for _, n := range path {
		l = append(l, strconv.Itoa(n))
	}
	return strings.Join(l, " ")
}

// P25.1: rules with other numbers of Kids, and rules that do not exist.
func TestKids(t *testing.T) {
	for rule, kids := range []int{Assume: 0, Axiom: 0, ImpliesIn: 1, ImpliesOut: 2, AndIn: 2, AndFirst: 1, AndSecond: 1, OrFirst: 1, OrSecond: 1, OrOut: 3, FalseOut: 1, Classic: 1, AllIn: 1, AllOut: 1, SomeIn: 1, SomeOut: 2, Reflexive: 0, Replace: 2} {
		for n := range 5 {
			d := Derivation{Rule: rule, Kids: slices.Repeat([]Derivation{{Rule: Assume, Index: 9}}, n), Name: "x", Term: Term{Name: "x"}, Formula: Formula{Kind: False}}
			_, path, e := Check(nil, nil, d)
			if isRight := rule > 0 && n == kids; (e == ErrRule) == isRight || len(path) > 0 != (isRight && n > 0) {
				t.Errorf("the rule %d with %d Kids: %d at %v", rule, n, e, path)
			}
		}
	}
	for _, rule := range []int{-1, 0, LastRule + 1, 1 << 40} {
		if f, path, e := Check(nil, nil, Derivation{Rule: rule}); e != ErrRule || len(path) > 0 || !isZero(f) {
			t.Errorf("the rule %d: %d", rule, e)
		}
		d := Derivation{Rule: AndIn, Kids: []Derivation{{Rule: Reflexive, Term: Term{Name: "x"}}, {Rule: rule}}}
		if _, path, e := Check(nil, nil, d); e != ErrRule || places(path) != "1" {
			t.Errorf("the rule %d: %d at %v", rule, e, path)
		}
	}
}

// P25.1: the errors in their order: theory, assumptions, size, and of a node its rule, its fields, its Kids and what it concludes.
func TestCheckErrors(t *testing.T) {
	p, no, loose := Formula{Kind: Atom, Name: "p"}, Formula{Kind: Atom}, Formula{Kind: Atom, Name: "p", Terms: []Term{{}}}
	late := []Derivation{{Rule: Assume, Index: 1}}
	var huge Derivation
	for range 1 << 15 {
		huge = Derivation{Kids: []Derivation{huge}}
	}
	for name, x := range map[string]struct {
		theory, assumptions []Formula
		d                   Derivation
		want                api.Errno
		path                string
	}{
		"the theory":                      {[]Formula{p, no}, []Formula{loose}, huge, api.ErrForm, ""},
		"the first of the theory":         {[]Formula{loose, no}, nil, huge, ErrBound, ""},
		"a formula that is too deep":      {[]Formula{p, binders(All, 100, p)}, nil, huge, api.ErrSize, ""},
		"the assumptions":                 {[]Formula{p}, []Formula{p, loose, no}, huge, ErrBound, ""},
		"the size":                        {nil, nil, huge, api.ErrSize, ""},
		"no rule":                         {nil, nil, Derivation{}, ErrRule, ""},
		"the rule ahead of its fields":    {nil, nil, Derivation{Rule: ImpliesIn, Formula: no}, ErrRule, ""},
		"the rule ahead of its index":     {nil, nil, Derivation{Rule: Assume, Index: 1, Kids: late}, ErrRule, ""},
		"the formula ahead of the Kids":   {nil, nil, Derivation{Rule: ImpliesIn, Formula: no, Kids: late}, api.ErrForm, ""},
		"a loose one ahead of the Kids":   {nil, nil, Derivation{Rule: OrFirst, Formula: loose, Kids: late}, ErrBound, ""},
		"the formula of OrSecond":         {nil, nil, Derivation{Rule: OrSecond, Formula: loose, Kids: late}, ErrBound, ""},
		"the formula of FalseOut":         {nil, nil, Derivation{Rule: FalseOut, Formula: no, Kids: late}, api.ErrForm, ""},
		"the formula of Classic":          {nil, nil, Derivation{Rule: Classic, Formula: no, Kids: late}, api.ErrForm, ""},
		"the formula of SomeIn":           {nil, nil, Derivation{Rule: SomeIn, Formula: loose, Term: Term{Name: "$"}, Kids: late}, ErrBound, ""},
		"the term of SomeIn":              {nil, nil, Derivation{Rule: SomeIn, Formula: p, Term: Term{Name: "$"}, Kids: late}, api.ErrForm, ""},
		"a term that is too deep":         {nil, nil, Derivation{Rule: SomeIn, Formula: p, Term: tower(101), Kids: late}, api.ErrSize, ""},
		"the Kids ahead of SomeIn's form": {nil, nil, Derivation{Rule: SomeIn, Formula: p, Term: Term{Name: "a"}, Kids: late}, ErrAssume, "0"},
		"the term of AllOut":              {nil, nil, Derivation{Rule: AllOut, Kids: late}, ErrBound, ""},
		"the term of Reflexive":           {nil, nil, Derivation{Rule: Reflexive, Term: Term{Name: "f", Args: []Term{{Name: "a", Index: 1}}}}, api.ErrForm, ""},
		"the name of AllIn":               {nil, nil, Derivation{Rule: AllIn, Kids: late}, api.ErrForm, ""},
		"the name of SomeOut":             {nil, nil, Derivation{Rule: SomeOut, Name: "$x", Kids: []Derivation{late[0], late[0]}}, api.ErrForm, ""},
		"a name with 61 bytes":            {nil, nil, Derivation{Rule: AllIn, Name: strings.Repeat("x", 61), Kids: late}, api.ErrForm, ""},
		"a name with 60 bytes":            {nil, nil, Derivation{Rule: AllIn, Name: strings.Repeat("x", 60), Kids: late}, ErrAssume, "0"},
		"the template of Replace":         {nil, nil, Derivation{Rule: Replace, Formula: no, Kids: []Derivation{late[0], late[0]}}, api.ErrForm, ""},
		"a template with two binders":     {nil, nil, Derivation{Rule: Replace, Formula: Formula{Kind: Atom, Name: "p", Terms: []Term{{Index: 1}}}, Kids: []Derivation{late[0], late[0]}}, ErrBound, ""},
		"a template with one":             {nil, nil, Derivation{Rule: Replace, Formula: loose, Kids: []Derivation{late[0], late[0]}}, ErrAssume, "0"},
		"a template with one inside":      {nil, nil, Derivation{Rule: Replace, Formula: binders(All, 1, Formula{Kind: Atom, Name: "p", Terms: []Term{{Index: 1}}}), Kids: []Derivation{late[0], late[0]}}, ErrAssume, "0"},
		"a template of the depth 100":     {nil, nil, Derivation{Rule: Replace, Formula: chain(99), Kids: []Derivation{late[0], late[0]}}, ErrAssume, "0"},
		"a template of the depth 101":     {nil, nil, Derivation{Rule: Replace, Formula: chain(100), Kids: []Derivation{late[0], late[0]}}, api.ErrSize, ""},
		"fields that play no part":        {nil, []Formula{p, p}, Derivation{Rule: AndIn, Index: -1, Name: "$", Term: Term{Name: "$"}, Formula: no, Kids: []Derivation{late[0], {Rule: Assume, Name: "$", Term: Term{Index: -1}, Formula: chain(200)}}}, api.OK, ""},
		"a template is not a formula":     {nil, nil, Derivation{Rule: ImpliesIn, Formula: loose, Kids: late}, ErrBound, ""},
	} {
		f, path, e := Check(x.theory, x.assumptions, x.d)
		if e != x.want || places(path) != x.path || (e == api.OK) == isZero(f) {
			t.Errorf("%s: %v, %d at %v, want %d at %s", name, f, e, path, x.want, x.path)
		}
	}
}

// ladder returns a derivation of p from p -> p and p that has a depth, and two nodes less one for each level.
func ladder(depth int) Derivation {
	d := Derivation{Rule: Assume}
	for range depth - 1 {
		d = Derivation{Rule: ImpliesOut, Kids: []Derivation{{Rule: Assume, Index: 1}, d}}
	}
	return d
}

// sized returns a derivation of p from p -> p and p that has n nodes, and is not too deep. (None has 2.)
func sized(n int) Derivation {
	first := 999
	if n <= 1000 {
		if n%2 == 1 {
			return ladder((n + 1) / 2)
		}
		first = 1
	}
	return Derivation{Rule: AndFirst, Kids: []Derivation{{Rule: AndIn, Kids: []Derivation{sized(first), sized(n - 2 - first)}}}}
}

// P25.1: derivations with as many nodes, and as deep, as may be, and one more.
func TestCheckLimits(t *testing.T) {
	p := Formula{Kind: Atom, Name: "p"}
	assumptions := []Formula{{Kind: Implies, Parts: []Formula{p, p}}, p}
	for _, x := range []struct {
		d            Derivation
		nodes, depth int
		want         api.Errno
	}{
		{ladder(1000), 1999, 1000, api.OK},
		{ladder(1001), 2001, 1001, api.ErrSize},
		{sized(8000), 8000, 514, api.OK},
		{sized(8001), 8001, 514, api.ErrSize},
	} {
		if nodes, depth := Size(x.d); nodes != x.nodes || depth != x.depth {
			t.Errorf("%d nodes of the depth %d, want %d and %d", nodes, depth, x.nodes, x.depth)
		}
		if f, path, e := Check(nil, assumptions, x.d); e != x.want || len(path) > 0 || Same(f, p) != (e == api.OK) {
			t.Errorf("%d nodes: %v, %d at %v, want %d", x.nodes, f, e, path, x.want)
		}
	}
}

// P25.1: conclusions with as many nodes, and as deep, as may be, and one more; what is too large for a premise.
func TestLargeConclusions(t *testing.T) {
	use := Derivation{Rule: Assume}
	a := Term{Name: "a"}
	four := Term{Name: "f", Args: []Term{a, a, a}}
	many := Formula{Kind: Atom, Name: "p", Terms: append(slices.Repeat([]Term{{}}, 999), a, a)} // 1002 nodes, 3999 with four nodes for each
	more := Formula{Kind: Atom, Name: "p", Terms: append(slices.Repeat([]Term{{}}, 999), a, a, a, a)}
	equation := Formula{Kind: Equal, Terms: []Term{a, four}}
	started := func(f Formula) Formula { g, _ := instance(f, a); return g }
	node := func(rule int, f Formula, kids ...Derivation) Derivation {
		return Derivation{Rule: rule, Formula: f, Kids: kids}
	}
	for name, x := range map[string]struct {
		assumptions []Formula
		d           Derivation
		want        api.Errno
		path        string
	}{
		"ImpliesIn of the depth 100":    {nil, node(ImpliesIn, chain(98), use), api.OK, ""},
		"ImpliesIn of the depth 101":    {nil, node(ImpliesIn, chain(99), use), api.ErrLarge, ""},
		"ImpliesIn of 3999 nodes":       {nil, node(ImpliesIn, wide(1999), use), api.OK, ""},
		"ImpliesIn of 4001 nodes":       {nil, node(ImpliesIn, wide(2000), use), api.ErrLarge, ""},
		"AndIn of 4000 nodes":           {[]Formula{wide(2000), wide(1999)}, node(AndIn, Formula{}, Derivation{Rule: Assume, Index: 1}, use), api.OK, ""},
		"AndIn of 4001 nodes":           {[]Formula{wide(2000)}, node(AndIn, Formula{}, use, use), api.ErrLarge, ""},
		"OrFirst of the depth 100":      {[]Formula{chain(98)}, node(OrFirst, chain(0), use), api.OK, ""},
		"OrFirst of the depth 101":      {[]Formula{chain(99)}, node(OrFirst, chain(0), use), api.ErrLarge, ""},
		"OrSecond of the depth 101":     {[]Formula{chain(0)}, node(OrSecond, chain(99), use), api.ErrLarge, ""},
		"AllIn of 4000 nodes":           {[]Formula{wide(3999)}, Derivation{Rule: AllIn, Name: "x", Kids: []Derivation{use}}, api.OK, ""},
		"AllIn of 4001 nodes":           {[]Formula{wide(4000)}, Derivation{Rule: AllIn, Name: "x", Kids: []Derivation{use}}, api.ErrLarge, ""},
		"AllIn, not fresh and large":    {[]Formula{wide(4000)}, Derivation{Rule: AllIn, Name: "a", Kids: []Derivation{use}}, ErrFresh, ""},
		"AllOut of 3999 nodes":          {[]Formula{binders(All, 1, many)}, Derivation{Rule: AllOut, Term: four, Kids: []Derivation{use}}, api.OK, ""},
		"AllOut of 4001 nodes":          {[]Formula{binders(All, 1, more)}, Derivation{Rule: AllOut, Term: four, Kids: []Derivation{use}}, api.ErrLarge, ""},
		"AllOut in a Kid":               {[]Formula{binders(All, 1, more)}, node(AndIn, Formula{}, use, Derivation{Rule: AllOut, Term: four, Kids: []Derivation{use}}), api.ErrLarge, "1"},
		"SomeIn, too large":             {[]Formula{chain(0)}, Derivation{Rule: SomeIn, Formula: binders(Some, 1, more), Term: four, Kids: []Derivation{use}}, ErrPremise, ""},
		"Reflexive of 3999 nodes":       {nil, Derivation{Rule: Reflexive, Term: Term{Name: "f", Args: slices.Repeat([]Term{a}, 1998)}}, api.OK, ""},
		"Reflexive of 4001 nodes":       {nil, Derivation{Rule: Reflexive, Term: Term{Name: "f", Args: slices.Repeat([]Term{a}, 1999)}}, api.ErrLarge, ""},
		"Reflexive of the depth 100":    {nil, Derivation{Rule: Reflexive, Term: tower(99)}, api.OK, ""},
		"Reflexive of the depth 101":    {nil, Derivation{Rule: Reflexive, Term: tower(100)}, api.ErrLarge, ""},
		"Replace of 3999 nodes":         {[]Formula{equation, started(many)}, node(Replace, many, Derivation{Rule: Assume, Index: 1}, use), api.OK, ""},
		"Replace of 4001 nodes":         {[]Formula{equation, started(more)}, node(Replace, more, Derivation{Rule: Assume, Index: 1}, use), api.ErrLarge, ""},
		"Replace, too large":            {[]Formula{{Kind: Equal, Terms: []Term{four, a}}, started(more)}, node(Replace, more, Derivation{Rule: Assume, Index: 1}, use), ErrPremise, ""},
		"Classic of the depth 100":      {[]Formula{{Kind: False}}, node(Classic, chain(99), Derivation{Rule: Assume, Index: 1}), api.OK, ""},
		"Classic with its assumption":   {nil, node(Classic, chain(99), use), api.ErrLarge, "0"},
		"Classic of the depth 99":       {nil, node(Classic, chain(98), use), ErrPremise, ""},
		"what has no part in a Classic": {[]Formula{{Kind: False}}, node(Classic, chain(99), Derivation{Rule: AndFirst, Kids: []Derivation{node(AndIn, Formula{}, Derivation{Rule: Assume, Index: 1}, Derivation{Rule: AllIn, Name: "a", Kids: []Derivation{{Rule: Reflexive, Term: a}}})}}), api.OK, ""},
	} {
		f, path, e := Check(nil, x.assumptions, x.d)
		if e != x.want || places(path) != x.path || (e == api.OK) == isZero(f) {
			t.Errorf("%s: %v, %d at %v, want %d at %s", name, f, e, path, x.want, x.path)
		}
	}
}
