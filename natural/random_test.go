package natural

import (
	"math/rand"
	"slices"
	"strings"
	"testing"

	"apodixis/api"
)

// source makes derivations.
type source struct {
	r      *rand.Rand
	theory []Formula
	plain  bool // without quantifiers, equations and arguments
}

// formula returns a random formula.
func (s *source) formula(depth int) Formula {
	if !s.plain {
		return randomSpoken(s.r, nil, depth).formula()
	}
	kind := []int{Implies, And, Or}[s.r.Intn(3)]
	if depth == 0 || s.r.Intn(3) == 0 {
		return Formula{Kind: []int{Atom, Atom, False}[s.r.Intn(3)], Name: ""}.named(pick(s.r, "p q r"))
	}
	return Formula{Kind: kind, Parts: []Formula{s.formula(depth - 1), s.formula(depth - 1)}}
}

// named gives an atom its name.
func (f Formula) named(name string) Formula {
	if f.Kind == Atom {
		f.Name = name
	}
	return f
}

// lifted returns a derivation with its own assumptions, of which further ones stand behind those that are open around it.
func lifted(d Derivation, inner int) Derivation {
	if d.Rule == Assume && d.Index >= inner {
		d.Index++
	}
	kids := slices.Clone(d.Kids)
	for n := range kids {
		further := 0
		switch {
		case d.Rule == ImpliesIn, d.Rule == Classic, d.Rule == OrOut && n > 0, d.Rule == SomeOut && n == 1:
			further = 1
		}
		kids[n] = lifted(kids[n], inner+further)
	}
	d.Kids = kids
	return d
}

// derivation returns a random derivation from open assumptions, with its conclusion.
func (s *source) derivation(open []Formula, depth int) (Derivation, Formula) {
	for {
		d, ok := s.step(open, depth)
		if !ok {
			continue
		}
		if f, _, e := model(s.theory, open, d, nil); e == api.OK {
			return d, f
		}
	}
}

// step returns a derivation that may be right.
func (s *source) step(open []Formula, depth int) (Derivation, bool) {
	r := s.r
	if depth == 0 {
		switch {
		case len(open) > 0 && r.Intn(2) == 0:
			return Derivation{Rule: Assume, Index: r.Intn(len(open))}, true
		case len(s.theory) > 0 && r.Intn(2) == 0:
			return Derivation{Rule: Axiom, Index: r.Intn(len(s.theory))}, true
		case !s.plain:
			return Derivation{Rule: Reflexive, Term: randomTerm(r, nil, 1)}, true
		}
		f := s.formula(1)
		return Derivation{Rule: ImpliesIn, Formula: f, Kids: []Derivation{{Rule: Assume}}}, true
	}
	kid, f := s.derivation(open, depth-1)
	one := []Derivation{kid}
	other := s.formula(1)
	under := func(f Formula) Derivation {
		d, _ := s.derivation(append(slices.Clone(open), f), depth-1)
		return d
	}
	choice := 1 + r.Intn(LastRule)
	switch choice {
	case ImpliesIn:
		return Derivation{Rule: ImpliesIn, Formula: other, Kids: []Derivation{under(other)}}, true
	case ImpliesOut:
		return Derivation{Rule: ImpliesOut, Kids: []Derivation{{Rule: ImpliesIn, Formula: f, Kids: []Derivation{under(f)}}, kid}}, true
	case AndIn, AndFirst, AndSecond:
		second, _ := s.derivation(open, depth-1)
		d := Derivation{Rule: AndIn, Kids: []Derivation{kid, second}}
		if choice != AndIn {
			d = Derivation{Rule: choice, Kids: []Derivation{d}}
		}
		return d, true
	case OrFirst, OrSecond:
		return Derivation{Rule: choice, Formula: other, Kids: one}, true
	case OrOut:
		first := Derivation{Rule: OrFirst + r.Intn(2), Formula: other, Kids: one}
		common, _ := s.derivation(open, depth-1)
		return Derivation{Rule: OrOut, Kids: []Derivation{first, lifted(common, 0), lifted(common, 0)}}, true
	case FalseOut, Classic: // from a formula and its negation, if that is open
		at := slices.IndexFunc(open, func(g Formula) bool { return g.Kind == Implies && g.Parts[1].Kind == False && Same(g.Parts[0], f) })
		no := Formula{Kind: Implies, Parts: []Formula{f, {Kind: False}}}
		if choice == FalseOut && at >= 0 {
			return Derivation{Rule: FalseOut, Formula: other, Kids: []Derivation{{Rule: ImpliesOut, Kids: []Derivation{{Rule: Assume, Index: len(open) - 1 - at}, kid}}}}, true
		}
		if choice == FalseOut {
			d := Derivation{Rule: FalseOut, Formula: other, Kids: []Derivation{{Rule: ImpliesOut, Kids: []Derivation{{Rule: Assume}, lifted(kid, 0)}}}}
			return Derivation{Rule: ImpliesIn, Formula: no, Kids: []Derivation{d}}, true
		}
		return Derivation{Rule: Classic, Formula: f, Kids: []Derivation{{Rule: ImpliesOut, Kids: []Derivation{{Rule: Assume}, lifted(kid, 0)}}}}, true
	}
	if s.plain {
		return Derivation{}, false
	}
	name := pick(r, "x y a b c d")
	switch choice {
	case AllIn:
		return Derivation{Rule: AllIn, Name: name, Kids: one}, true
	case AllOut:
		return Derivation{Rule: AllOut, Term: randomTerm(r, nil, 1), Kids: []Derivation{{Rule: AllIn, Name: name, Kids: one}}}, true
	case SomeIn, SomeOut:
		q, e := Abstract(Some, f, name)
		d := Derivation{Rule: SomeIn, Formula: q, Term: Term{Name: name}, Kids: one}
		if choice == SomeOut {
			common, _ := s.derivation(open, depth-1)
			d = Derivation{Rule: SomeOut, Name: pick(r, "d e"), Kids: []Derivation{d, lifted(common, 0)}}
		}
		return d, e == api.OK
	case Replace:
		q, e := Abstract(All, f, name)
		if e != api.OK {
			return Derivation{}, false
		}
		equation := Derivation{Rule: Reflexive, Term: Term{Name: name}}
		if at := slices.IndexFunc(open, func(g Formula) bool { return g.Kind == Equal && sameTerm(g.Terms[0], Term{Name: name}) }); at >= 0 {
			equation = Derivation{Rule: Assume, Index: len(open) - 1 - at}
		}
		return Derivation{Rule: Replace, Formula: q.Parts[0], Kids: []Derivation{equation, kid}}, true
	}
	return Derivation{}, false
}

// spoilt returns a derivation with a change at a random node.
func (s *source) spoilt(d Derivation) Derivation {
	r := s.r
	if len(d.Kids) > 0 && r.Intn(4) > 0 {
		d.Kids = slices.Clone(d.Kids)
		n := r.Intn(len(d.Kids))
		d.Kids[n] = s.spoilt(d.Kids[n])
		return d
	}
	choice := r.Intn(8)
	if d.Rule == AllIn || d.Rule == SomeOut {
		choice = 2
	}
	switch choice {
	case 0:
		d.Rule = r.Intn(LastRule + 3)
	case 1:
		d.Index += r.Intn(5) - 2
	case 2:
		d.Name = pick(r, "x y a b v0 v1 d $")
	case 3:
		d.Term = randomTerm(r, nil, 1)
		if r.Intn(3) == 0 {
			d.Term = Term{Index: r.Intn(3) - 1}
		}
	case 4:
		d.Formula = s.formula(2)
	case 5:
		d.Formula = Formula{Kind: All + r.Intn(2), Parts: []Formula{{Kind: Atom, Name: "P", Terms: []Term{{Index: r.Intn(3)}}}}}
	case 6:
		if len(d.Kids) > 1 {
			d.Kids = []Derivation{d.Kids[1], d.Kids[0]}
		}
	default:
		d.Kids = append(slices.Clone(d.Kids), Derivation{Rule: Assume})[:max(0, len(d.Kids)+r.Intn(3)-1)]
	}
	return d
}

// P25.1: random derivations, right ones and changed ones, have the conclusion, or the error and its path, that the model tells.
func TestModel(t *testing.T) {
	codes := map[api.Errno]int{}
	used := map[int]int{}
	for seed := range 4000 {
		s := &source{r: rand.New(rand.NewSource(int64(seed)))}
		for range s.r.Intn(3) {
			s.theory = append(s.theory, s.formula(1))
		}
		var open []Formula
		for range s.r.Intn(4) {
			open = append(open, s.formula(1))
		}
		d, _ := s.derivation(open, s.r.Intn(4))
		for range s.r.Intn(3) {
			d = s.spoilt(d)
		}
		want, place, wrong := model(s.theory, open, d, nil)
		f, path, e := Check(s.theory, open, d)
		if e != wrong || !slices.Equal(path, place) || !Same(f, want) {
			t.Fatalf("%v from %v and %v: %v, %d at %v, want %v, %d at %v", d, s.theory, open, f, e, path, want, wrong, place)
		}
		codes[e]++
		if e == api.OK {
			count(d, used)
		}
	}
	for _, e := range []api.Errno{api.OK, ErrRule, ErrPremise, ErrFresh, ErrBound, ErrAssume, api.ErrForm} {
		if codes[e] < 20 {
			t.Errorf("%d came %d times", e, codes[e])
		}
	}
	for rule := Assume; rule <= LastRule; rule++ {
		if used[rule] < 50 {
			t.Errorf("the rule %d was right %d times", rule, used[rule])
		}
	}
}

// count counts the rules of a derivation.
func count(d Derivation, used map[int]int) {
	used[d.Rule]++
	for _, k := range d.Kids {
		count(k, used)
	}
}

// P25.4: a conclusion of propositions holds wherever the theory and the assumptions hold.
func TestSoundness(t *testing.T) {
	checked := 0
	for seed := range 3000 {
		s := &source{r: rand.New(rand.NewSource(int64(seed))), plain: true}
		for range s.r.Intn(3) {
			s.theory = append(s.theory, s.formula(2))
		}
		var open []Formula
		for range s.r.Intn(3) {
			open = append(open, s.formula(2))
		}
		d, _ := s.derivation(open, s.r.Intn(5))
		if s.r.Intn(2) == 0 {
			d = s.spoilt(d)
		}
		f, _, e := Check(s.theory, open, d)
		if e != api.OK {
			continue
		}
		for n := range 8 {
			var atoms []string
			for i, name := range strings.Fields("p q r") {
				if n>>i&1 == 1 {
					atoms = append(atoms, name)
				}
			}
			isTrue := func(f Formula) bool { ok, e := Holds(f, atoms); return ok && e == api.OK }
			isFalse := func(f Formula) bool { return !isTrue(f) }
			if slices.ContainsFunc(s.theory, isFalse) || slices.ContainsFunc(open, isFalse) {
				continue
			}
			if _, e := Holds(f, atoms); e != api.OK { // a change brought in other formulas
				continue
			}
			checked++
			if !isTrue(f) {
				t.Fatalf("%v from %v and %v under %v: %v", d, s.theory, open, atoms, f)
			}
		}
	}
	if checked < 2000 {
		t.Errorf("%d assignments", checked)
	}
}

// P25.5: with more at the end of the theory, and more assumptions in front, none of which has a parameter, the conclusion is the same.
func TestWeakening(t *testing.T) {
	further := formulas(t, "p ; $F ; $A x $> P $( x $) $E y $= x y ; $& q $A x P $( f $( x x $) $)")
	for seed := range 1500 {
		s := &source{r: rand.New(rand.NewSource(int64(seed)))}
		for range s.r.Intn(3) {
			s.theory = append(s.theory, s.formula(1))
		}
		var open []Formula
		for range s.r.Intn(3) {
			open = append(open, s.formula(1))
		}
		d, f := s.derivation(open, s.r.Intn(4))
		theory := append(slices.Clone(s.theory), further[:s.r.Intn(5)]...)
		assumptions := append(slices.Clone(further[:s.r.Intn(5)]), open...)
		if g, path, e := Check(theory, assumptions, d); e != api.OK || !Same(f, g) {
			t.Fatalf("%v from %v and %v: %v, %d at %v, want %v", d, theory, assumptions, g, e, path, f)
		}
	}
	// With a parameter it may be no longer fresh.
	d := derivation(t, "all{x}(refl{x})")
	if _, _, e := Check(formulas(t, "P $( x $)"), nil, d); e != ErrFresh {
		t.Errorf("the theory: %d", e)
	}
	if _, _, e := Check(nil, formulas(t, "P $( x $)"), d); e != ErrFresh {
		t.Errorf("the assumptions: %d", e)
	}
}
