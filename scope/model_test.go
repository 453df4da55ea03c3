package scope

import (
	"math/rand"
	"slices"
	"testing"

	"apodixis/api"
)

// enclosing returns the statements before i that stand in a scope which has not ended at i, without Open and Close.
func enclosing(l []api.Statement, i int) []api.Statement {
	var active []api.Statement
	skip := 0
	for j := i - 1; j >= 0; j-- {
		switch {
		case l[j].Kind == api.Close:
			skip++
		case l[j].Kind == api.Open && skip > 0:
			skip--
		case l[j].Kind != api.Open && skip == 0:
			active = append(active, l[j])
		}
	}
	slices.Reverse(active)
	return active
}

func declares(l []api.Statement, kind int, symbol string) bool {
	return slices.ContainsFunc(l, func(s api.Statement) bool { return s.Kind == kind && slices.Contains(s.Text, symbol) })
}

// place has what the rules of the statement i look at, as the document tells it.
type place struct{ before, active []api.Statement }

func (p place) constant(s string) bool { return declares(p.before, api.Constants, s) }
func (p place) variable(s string) bool { return declares(p.active, api.Variables, s) }
func (p place) symbol(s string) bool   { return p.constant(s) || p.variable(s) }
func (p place) declared(s string) bool { return p.constant(s) || declares(p.before, api.Variables, s) }
func (p place) label(s string) bool    { return slices.Contains(Labels(p.before), s) }

func floating(l []api.Statement, variable string) int {
	return slices.IndexFunc(l, func(s api.Statement) bool { return s.Kind == api.Floating && s.Text[1] == variable })
}

// modelled returns the error of a well-formed statement of the kinds that random makes.
func modelled(p place, depth int, s api.Statement) api.Errno {
	switch s.Kind {
	case api.Close:
		if depth == 0 {
			return ErrScopes
		}
	case api.Constants:
		if depth > 0 {
			return ErrNested
		}
		if p.declared(s.Text[0]) || p.label(s.Text[0]) {
			return ErrDeclared
		}
	case api.Variables:
		if p.symbol(s.Text[0]) || p.label(s.Text[0]) {
			return ErrDeclared
		}
	case api.Disjoint:
		for i, v := range s.Text {
			if !p.symbol(v) {
				return ErrActive
			}
			if p.constant(v) || slices.Contains(s.Text[:i], v) {
				return ErrDisjoint
			}
		}
	case api.Floating, api.Essential, api.Axiom, api.Theorem:
		return modelledFormula(p, s)
	}
	return api.OK
}

func modelledFormula(p place, s api.Statement) api.Errno {
	if p.label(s.Label) || p.declared(s.Label) {
		return ErrLabel
	}
	for i, x := range s.Text {
		first := floating(p.before, x)
		switch {
		case !p.symbol(x):
			return ErrActive
		case i == 0 && p.variable(x), i == 1 && s.Kind == api.Floating && p.constant(x):
			return ErrConstant
		case i == 0:
		case s.Kind == api.Floating && (floating(p.active, x) >= 0 || first >= 0 && p.before[first].Text[0] != s.Text[0]):
			return ErrTyped
		case s.Kind != api.Floating && p.variable(x) && floating(p.active, x) < 0:
			return ErrTyped
		}
	}
	return api.OK
}

// modelledCheck is Check, as the document tells it.
func modelledCheck(l []api.Statement) (int, api.Errno) {
	var opened []int
	for i, s := range l {
		if e := modelled(place{l[:i], enclosing(l, i)}, len(opened), s); e != api.OK {
			return i, e
		}
		switch s.Kind {
		case api.Open:
			opened = append(opened, i)
		case api.Close:
			opened = opened[:len(opened)-1]
		}
	}
	if n := len(opened); n > 0 {
		return opened[n-1], ErrScopes
	}
	return 0, api.OK
}

// modelledAt is At for right statements, as the document tells it.
func modelledAt(l []api.Statement, i int) Active {
	a := Active{Depth: depth(l[:i])}
	for _, s := range enclosing(l, i) {
		switch s.Kind {
		case api.Constants:
			a.Constants = append(a.Constants, s.Text...)
		case api.Variables:
			a.Variables = append(a.Variables, s.Text...)
		case api.Floating, api.Essential:
			a.Hyps = append(a.Hyps, api.Hyp{Label: s.Label, Floating: s.Kind == api.Floating, Text: s.Text})
		case api.Disjoint:
			a.Apart = append(a.Apart, api.Pair{A: min(s.Text[0], s.Text[1]), B: max(s.Text[0], s.Text[1])})
		}
	}
	slices.SortFunc(a.Apart, func(p, q api.Pair) int {
		if p.A+p.B < q.A+q.B {
			return -1
		}
		return 1
	})
	a.Apart = slices.Compact(a.Apart)
	return a
}

// P4.1: Check is what the rules say, for all kinds of errors.
func TestCheckModel(t *testing.T) {
	r := rand.New(rand.NewSource(41))
	seen := map[api.Errno]int{}
	for range 4000 {
		l := random(r, 25)
		at, e := Check(l)
		if i, f := modelledCheck(l); at != i || e != f {
			t.Fatalf("Check of %v: %d, %d, want %d, %d", l, at, e, i, f)
		}
		seen[e]++
	}
	for _, e := range []api.Errno{api.OK, ErrNested, ErrDeclared, ErrLabel, ErrActive, ErrConstant, ErrTyped, ErrDisjoint, ErrScopes} {
		if seen[e] < 10 {
			t.Errorf("the error %d came %d times only", e, seen[e])
		}
	}
}

// P4.1 and P4.3: At is what the terms say, and what is active fits together.
func TestAtModel(t *testing.T) {
	r := rand.New(rand.NewSource(43))
	for range 500 {
		l := right(r, 25)
		for i := range len(l) + 1 {
			a, e := At(l, i)
			if want := modelledAt(l, i); e != api.OK || !sameActive(a, want) {
				t.Fatalf("At of %v, %d: %v, %d, want %v", l, i, a, e, want)
			}
			typed := map[string]bool{}
			for _, h := range a.Hyps {
				if slices.Contains(a.Constants, h.Label) || slices.Contains(a.Variables, h.Label) {
					t.Fatalf("the label %s is active in %v", h.Label, a)
				}
				if h.Floating && (typed[h.Text[1]] || !slices.Contains(a.Variables, h.Text[1])) {
					t.Fatalf("the hypothesis %s in %v", h.Label, a)
				}
				typed[h.Text[len(h.Text)-1]] = typed[h.Text[len(h.Text)-1]] || h.Floating
			}
			for _, p := range a.Apart {
				if p.A >= p.B || !slices.Contains(a.Variables, p.A) || !slices.Contains(a.Variables, p.B) {
					t.Fatalf("the pair %v in %v", p, a)
				}
			}
		}
	}
}

// P4.2: a whole scope leaves nothing active, and may stand around statements at the end.
func TestWholeScopes(t *testing.T) {
	r := rand.New(rand.NewSource(42))
	scopes := 0
	for range 500 {
		l := right(r, 25)
		for i, s := range l {
			if s.Kind != api.Open {
				continue
			}
			scopes++
			j, e := Scope(l, i)
			k, f := Scope(l, j)
			a, g := At(l, i)
			b, h := At(l, j+1)
			if e != api.OK || f != api.OK || k != i || g != api.OK || h != api.OK || !sameActive(a, b) {
				t.Fatalf("the scope from %d to %d of %v: %v, %v", i, j, l, a, b)
			}
		}
		i := len(l)
		for i > 0 && l[i-1].Kind != api.Constants {
			i--
		}
		if depth(l[:i]) != 0 {
			t.Fatalf("constants in a scope: %v", l)
		}
		around := slices.Insert(append(slices.Clone(l), api.Statement{Kind: api.Close}), i, api.Statement{Kind: api.Open})
		if at, e := Check(around); e != api.OK {
			t.Fatalf("Check of %v: %d, %d", around, at, e)
		}
	}
	if scopes < 100 {
		t.Errorf("only %d scopes", scopes)
	}
}

// P4.4: beginnings of right statements that end in the outermost scope are right.
func TestPrefixes(t *testing.T) {
	r := rand.New(rand.NewSource(44))
	for range 500 {
		l := right(r, 20)
		for i := range len(l) + 1 {
			if _, e := At(l, i); e != api.OK {
				t.Fatalf("At of %v, %d: %d", l, i, e)
			}
			if _, e := Check(l[:i]); depth(l[:i]) == 0 && e != api.OK {
				t.Fatalf("Check of %v: %d", l[:i], e)
			}
		}
	}
}

// P4.5: two Variables statements side by side can change places.
func TestVariablesOrder(t *testing.T) {
	r := rand.New(rand.NewSource(45))
	for range 500 {
		l := right(r, 20)
		i := r.Intn(len(l) + 1)
		l = slices.Insert(l, i, api.Statement{Kind: api.Variables, Text: []string{string("uxy"[r.Intn(3)])}}, api.Statement{Kind: api.Variables, Text: []string{string("xyv"[r.Intn(3)])}})
		_, e := Check(l)
		l[i], l[i+1] = l[i+1], l[i]
		if _, f := Check(l); e != f && (e == api.OK || f == api.OK) {
			t.Fatalf("Check of %v: %d, %d", l, e, f)
		}
	}
}
