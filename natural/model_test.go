package natural

import (
	"math/rand"
	"slices"
	"strconv"
	"strings"
	"testing"

	"apodixis/api"
	"apodixis/token"
)

// pick returns one of several words.
func pick(r *rand.Rand, words string) string {
	l := strings.Fields(words)
	return l[r.Intn(len(l))]
}

// spoken is a formula whose binders have names: the Name of an All or a Some is that of its variable, and terms have no indices.
type spoken struct {
	kind  int
	name  string
	terms []Term
	parts []spoken
}

// randomTerm returns a term, in which names of binders around occur.
func randomTerm(r *rand.Rand, around []string, depth int) Term {
	if depth > 0 && r.Intn(3) == 0 {
		t := Term{Name: pick(r, "f g x")}
		for range 1 + r.Intn(2) {
			t.Args = append(t.Args, randomTerm(r, around, depth-1))
		}
		return t
	}
	if len(around) > 0 && r.Intn(2) == 0 {
		return Term{Name: around[r.Intn(len(around))]}
	}
	return Term{Name: pick(r, "x y a b v0 v1 v2")}
}

// randomSpoken returns a formula with any names of binders.
func randomSpoken(r *rand.Rand, around []string, depth int) spoken {
	f := spoken{kind: 1 + r.Intn(8)}
	if depth == 0 {
		f.kind = 1 + r.Intn(3)
	}
	count := termsOf(f.kind)
	switch f.kind {
	case Atom:
		f.name, count = pick(r, "p q P Q x"), r.Intn(3)
	case All, Some:
		f.name = pick(r, "x y z v0 v1 u w")
		around = append(slices.Clone(around), f.name)
	}
	for range count {
		f.terms = append(f.terms, randomTerm(r, around, 2))
	}
	for range partsOf(f.kind) {
		f.parts = append(f.parts, randomSpoken(r, around, depth-1))
	}
	return f
}

// words returns the text of a formula.
func (f spoken) words() []string {
	var terms func(l []Term) []string
	terms = func(l []Term) []string {
		var words []string
		for _, t := range l {
			words = append(words, t.Name)
			if len(t.Args) > 0 {
				words = slices.Concat(words, []string{"$("}, terms(t.Args), []string{"$)"})
			}
		}
		return words
	}
	var l []string
	if sign := []string{Equal: "$=", False: "$F", Implies: "$>", And: "$&", Or: "$|", All: "$A", Some: "$E"}[f.kind]; sign != "" {
		l = append(l, sign)
	}
	switch {
	case f.kind == Atom && len(f.terms) > 0:
		l = slices.Concat(l, []string{f.name, "$("}, terms(f.terms), []string{"$)"})
	case f.name != "":
		l = append(l, f.name)
	default:
		l = append(l, terms(f.terms)...)
	}
	for _, p := range f.parts {
		l = append(l, p.words()...)
	}
	return l
}

// each returns a formula in which the names of terms without arguments, where binders with certain names are around, the innermost one first, become other terms.
func (f spoken) each(around []string, work func(name string, around []string) Term) spoken {
	var term func(t Term) Term
	term = func(t Term) Term {
		if len(t.Args) == 0 {
			return work(t.Name, around)
		}
		x := Term{Name: t.Name}
		for _, a := range t.Args {
			x.Args = append(x.Args, term(a))
		}
		return x
	}
	if f.kind == All || f.kind == Some {
		around = append([]string{f.name}, around...)
	}
	g := spoken{kind: f.kind, name: f.name}
	for _, t := range f.terms {
		g.terms = append(g.terms, term(t))
	}
	for _, p := range f.parts {
		g.parts = append(g.parts, p.each(around, work))
	}
	return g
}

// formula returns a formula without names of binders.
func (f spoken) formula() Formula {
	g := f.each(nil, func(name string, around []string) Term {
		if i := slices.Index(around, name); i >= 0 {
			return Term{Index: i}
		}
		return Term{Name: name}
	})
	var bare func(f spoken) Formula
	bare = func(f spoken) Formula {
		result := Formula{Kind: f.kind, Terms: f.terms}
		if f.kind == Atom {
			result.Name = f.name
		}
		for _, p := range f.parts {
			result.Parts = append(result.Parts, bare(p))
		}
		return result
	}
	return bare(g)
}

// renamed returns a formula whose binders have other names, those of their numbers.
func (f spoken) renamed(name func(n int) string) spoken {
	count := 0
	var number func(f spoken) spoken
	number = func(f spoken) spoken { // names of binders become their numbers, and then names
		if f.kind == All || f.kind == Some {
			own := strconv.Itoa(count)
			count++
			old := f.name
			for i, p := range f.parts {
				f.parts[i] = p.each(nil, func(x string, inner []string) Term {
					if x == old && !slices.Contains(inner, x) {
						x = "#" + own
					}
					return Term{Name: x}
				})
			}
			f.name = "#" + own
		}
		for i, p := range f.parts {
			f.parts[i] = number(p)
		}
		return f
	}
	change := func(x string) string {
		if n, e := strconv.Atoi(strings.TrimPrefix(x, "#")); e == nil && x[0] == '#' {
			return name(n)
		}
		return x
	}
	var finish func(f spoken) spoken
	finish = func(f spoken) spoken {
		f.name = change(f.name)
		for i, p := range f.parts {
			f.parts[i] = finish(p)
		}
		return f
	}
	g := number(f.each(nil, func(x string, _ []string) Term { return Term{Name: x} }))
	return finish(g.each(nil, func(x string, _ []string) Term { return Term{Name: change(x)} }))
}

// put returns a formula with a term for a parameter, where no name of a binder occurs in the term.
func (f spoken) put(name string, t Term) spoken {
	return f.each(nil, func(x string, around []string) Term {
		if x == name && !slices.Contains(around, x) {
			return t
		}
		return Term{Name: x}
	})
}

// checkVariables checks that each binder has the least number that is no parameter's, and not that of a binder around.
func (f spoken) checkVariables(t *testing.T, parameters, around []string) {
	t.Helper()
	if f.kind == All || f.kind == Some {
		n := 0
		for slices.Contains(parameters, "v"+strconv.Itoa(n)) || slices.Contains(around, "v"+strconv.Itoa(n)) {
			n++
		}
		if f.name != "v"+strconv.Itoa(n) {
			t.Fatalf("%v: %s, want v%d", f, f.name, n)
		}
		around = append(slices.Clone(around), f.name)
	}
	for _, p := range f.parts {
		p.checkVariables(t, parameters, around)
	}
}

// read returns the formula with names that words are the text of, and the words behind it.
func read(words []string) (spoken, []string) {
	var terms func(least, most int) []Term
	terms = func(least, most int) []Term {
		var l []Term
		for len(l) < most && (len(l) < least || words[0] != "$)") {
			t := Term{Name: words[0]}
			words = words[1:]
			if len(words) > 0 && words[0] == "$(" {
				words = words[1:]
				t.Args = terms(1, len(words))
				words = words[1:]
			}
			l = append(l, t)
		}
		return l
	}
	f := spoken{kind: 1 + slices.Index([]string{"$=", "$F", "$>", "$&", "$|", "$A", "$E"}, words[0]) + 1}
	name := words[0]
	words = words[1:]
	switch f.kind {
	case Atom:
		f.name = name
		if len(words) > 0 && words[0] == "$(" {
			words = words[1:]
			f.terms = terms(1, len(words))
			words = words[1:]
		}
	case Equal:
		f.terms = terms(2, 2)
	case All, Some:
		f.name, words = words[0], words[1:]
	}
	for range partsOf(f.kind) {
		var p spoken
		p, words = read(words)
		f.parts = append(f.parts, p)
	}
	return f, words
}

// P25.2: texts are parsed as they are read with names; Parse of Text is the formula; other names for the binders change nothing.
func TestAlpha(t *testing.T) {
	r := rand.New(rand.NewSource(252))
	for range 4000 {
		n := randomSpoken(r, nil, r.Intn(6))
		f := n.formula()
		text := strings.Join(n.words(), strings.Repeat(" ", 1+r.Intn(2)))
		if g := parsed(t, text); !Same(f, g) {
			t.Fatalf("%q: %v, want %v", text, g, f)
		}
		s := written(t, f)
		if g := parsed(t, s); !Same(f, g) || written(t, g) != s {
			t.Fatalf("%q: %q is another formula", text, s)
		}
		again, rest := read(strings.Fields(s))
		if !Same(again.formula(), f) || len(rest) > 0 {
			t.Fatalf("%q: %q is read as %v", text, s, again)
		}
		again.checkVariables(t, Free(f), nil)
		for _, name := range []func(int) string{func(n int) string { return "w" + strconv.Itoa(n) }, func(n int) string { return "->" + strings.Repeat("'", n) }} {
			other := strings.Join(n.renamed(name).words(), " ")
			if g := parsed(t, other); !Same(f, g) {
				t.Fatalf("%q: %q is another formula", text, other)
			}
		}
	}
}

// P25.3: Abstract, Instance and Replaced as they are with names, and their laws.
func TestSubstitutionLaws(t *testing.T) {
	r := rand.New(rand.NewSource(253))
	for range 4000 {
		n := randomSpoken(r, nil, r.Intn(5)).renamed(func(n int) string { return "w" + strconv.Itoa(n) })
		f := n.formula()
		name := pick(r, "x y a b v0 nowhere")
		kind := All + r.Intn(2)
		q, e := Abstract(kind, f, name)
		if want := (spoken{kind: kind, name: name, parts: []spoken{n}}).formula(); e != api.OK || !Same(q, want) {
			t.Fatalf("%v, %s: %v, %d, want %v", n, name, q, e, want)
		}
		if g, e := Instance(q, Term{Name: name}); e != api.OK || !Same(f, g) {
			t.Fatalf("%v, %s: %v, %d", n, name, g, e)
		}
		if g, e := Replaced(f, name, Term{Name: name}); e != api.OK || !Same(f, g) {
			t.Fatalf("%v, %s: %v, %d", n, name, g, e)
		}
		term := randomTerm(r, nil, 2)
		want := n.put(name, term).formula()
		if g, e := Instance(q, term); e != api.OK || !Same(g, want) {
			t.Fatalf("%v, %s by %v: %v, %d, want %v", n, name, term, g, e, want)
		}
		if g, e := Replaced(f, name, term); e != api.OK || !Same(g, want) {
			t.Fatalf("%v, %s by %v: %v, %d, want %v", n, name, term, g, e, want)
		}
		// Other parameters, by terms without both.
		one, two := Term{Name: pick(r, "c d")}, Term{Name: "h", Args: []Term{{Name: "d"}, {Name: "x", Args: []Term{{Name: "c"}}}}}
		other := pick(r, "x y a b v0 nowhere")
		if other == name {
			continue
		}
		a, _ := Replaced(f, name, one)
		a, _ = Replaced(a, other, two)
		b, _ := Replaced(f, other, two)
		b, _ = Replaced(b, name, one)
		if !Same(a, b) {
			t.Fatalf("%v, %s by %v, %s by %v: %v, %v", n, name, one, other, two, a, b)
		}
	}
}

// model returns what Check returns, by its description: the errors of each node one after the other.
func model(theory, assumptions []Formula, d Derivation, path []int) (f Formula, at []int, e api.Errno) {
	kid := func(n int, further ...Formula) Formula {
		if e != api.OK {
			return Formula{}
		}
		g, below, fault := model(theory, slices.Concat(assumptions, further), d.Kids[n], append(slices.Clone(path), n))
		if fault != api.OK {
			at, e = below, fault
		}
		return g
	}
	fail := func(code api.Errno) {
		if e == api.OK {
			at, e = path, code
		}
	}
	want := func(holds bool, code api.Errno) {
		if !holds {
			fail(code)
		}
	}
	part := func(f Formula, kind, n int) Formula {
		if e != api.OK || f.Kind != kind {
			fail(ErrPremise)
			return Formula{}
		}
		return f.Parts[n]
	}
	occurs := func(l ...Formula) bool {
		return slices.ContainsFunc(l, func(f Formula) bool { return slices.Contains(Free(f), d.Name) })
	}
	kids := map[int]int{Assume: 0, Axiom: 0, Reflexive: 0, ImpliesOut: 2, AndIn: 2, SomeOut: 2, Replace: 2, OrOut: 3}
	count, special := kids[d.Rule]
	if !special {
		count = 1
	}
	if d.Rule < 1 || d.Rule > 18 || len(d.Kids) != count {
		return Formula{}, path, ErrRule
	}
	switch d.Rule {
	case ImpliesIn, OrFirst, OrSecond, FalseOut, Classic, SomeIn:
		want(Well(d.Formula) == api.OK, Well(d.Formula))
	case Replace:
		code := Well(Formula{Kind: All, Parts: []Formula{d.Formula}})
		want(code == api.OK, code)
	}
	switch d.Rule {
	case AllOut, SomeIn, Reflexive:
		code := Well(Formula{Kind: Atom, Name: "p", Terms: []Term{d.Term}})
		want(code == api.OK, code)
	case AllIn, SomeOut:
		want(token.IsSymbol(d.Name), api.ErrForm)
	}
	if e != api.OK {
		return Formula{}, at, e
	}
	implies := func(a, b Formula) Formula { return Formula{Kind: Implies, Parts: []Formula{a, b}} }
	switch d.Rule {
	case Assume, Axiom:
		l := assumptions
		if d.Rule == Axiom {
			l = slices.Clone(theory)
			slices.Reverse(l)
		}
		if d.Index < 0 || d.Index >= len(l) {
			return Formula{}, path, ErrAssume
		}
		f = l[len(l)-1-d.Index]
	case ImpliesIn:
		f = implies(d.Formula, kid(0, d.Formula))
	case ImpliesOut:
		a, b := kid(0), kid(1)
		f = part(a, Implies, 1)
		want(Same(part(a, Implies, 0), b), ErrPremise)
	case AndIn:
		a, b := kid(0), kid(1)
		f = Formula{Kind: And, Parts: []Formula{a, b}}
	case AndFirst, AndSecond:
		f = part(kid(0), And, d.Rule-AndFirst)
	case OrFirst:
		f = Formula{Kind: Or, Parts: []Formula{kid(0), d.Formula}}
	case OrSecond:
		f = Formula{Kind: Or, Parts: []Formula{d.Formula, kid(0)}}
	case OrOut:
		a := kid(0)
		left, right := part(a, Or, 0), part(a, Or, 1)
		f = kid(1, left)
		want(Same(f, kid(2, right)), ErrPremise)
	case FalseOut:
		want(kid(0).Kind == False, ErrPremise)
		f = d.Formula
	case Classic:
		want(kid(0, implies(d.Formula, Formula{Kind: False})).Kind == False, ErrPremise)
		f = d.Formula
	case AllIn:
		g := kid(0)
		want(!occurs(theory...) && !occurs(assumptions...), ErrFresh)
		g, code := Abstract(All, g, d.Name)
		want(code == api.OK, code)
		f = g
	case AllOut:
		a := kid(0)
		part(a, All, 0)
		if e == api.OK {
			g, code := Instance(a, d.Term)
			want(code == api.OK, code)
			f = g
		}
	case SomeIn:
		a := kid(0)
		want(d.Formula.Kind == Some, ErrPremise)
		if e == api.OK {
			g, _ := Instance(d.Formula, d.Term)
			want(Same(g, a), ErrPremise)
		}
		f = d.Formula
	case SomeOut:
		a := kid(0)
		part(a, Some, 0)
		want(!occurs(theory...) && !occurs(assumptions...) && !occurs(a), ErrFresh)
		if e == api.OK {
			g, _ := Instance(a, Term{Name: d.Name})
			f = kid(1, g)
			want(!occurs(f), ErrFresh)
		}
	case Reflexive:
		f = Formula{Kind: Equal, Terms: []Term{d.Term, d.Term}}
	case Replace:
		a, b := kid(0), kid(1)
		want(a.Kind == Equal, ErrPremise)
		if e == api.OK {
			template := Formula{Kind: All, Parts: []Formula{d.Formula}}
			g, _ := Instance(template, a.Terms[0])
			want(Same(b, g), ErrPremise)
			f, _ = Instance(template, a.Terms[1])
		}
	}
	want(Well(f) == api.OK, api.ErrLarge)
	if e != api.OK {
		return Formula{}, at, e
	}
	return f, nil, api.OK
}
