package verify

import (
	"slices"
	"strings"
	"testing"

	"apodixis/api"
)

// stackOf writes the formulas on a machine's stack.
func stackOf(m *Machine) string {
	var l []string
	for _, text := range m.Stack() {
		l = append(l, strings.Join(text, " "))
	}
	return strings.Join(l, "; ")
}

// P7.1, P7.2: a machine step by step: what is on its stack, and when its verdict is known.
func TestMachine(t *testing.T) {
	open := func(step int) api.Verdict { return verdict(api.ErrEnd, step) }
	for _, x := range []struct {
		formula, proof string
		stacks         []string // behind each step that has no error
		verdict        api.Verdict
	}{
		{"|- ( p -> ( q -> p ) )", "wp wq a1", []string{"wff p", "wff p; wff q", "|- ( p -> ( q -> p ) )"}, verdict(api.OK, 0)},
		{"|- p", "wp wq a1", []string{"wff p", "wff p; wff q", "|- ( p -> ( q -> p ) )"}, verdict(api.ErrProves, 3)},
		{"|- p", "wp h", []string{"wff p", "wff p; |- ( q -> p )"}, verdict(api.ErrStack, 2)},
		{"|- p", "wp wq ? wp", []string{"wff p", "wff p; wff q"}, verdict(api.ErrUnknown, 2)},
		{"|- p", "wp wq a1 a1", []string{"wff p", "wff p; wff q", "|- ( p -> ( q -> p ) )"}, verdict(api.ErrStack, 3)},
		{"|- p", "wp h wp a1 wp", []string{"wff p", "wff p; |- ( q -> p )", "wff p; |- ( q -> p ); wff p"}, verdict(api.ErrKind, 3)},
		{"|- p", "", nil, verdict(api.ErrStack, 0)},
		{"|- p", "( ) Z", nil, verdict(api.ErrCode, 0)},
		{"|- p", "( wi", nil, verdict(api.ErrList, 0)},
		{"wff ( p -> p )", "( wi ) AZED", []string{"wff p", "wff p; wff p", "wff ( p -> p )"}, verdict(api.OK, 0)},
		{"|- ( p -> ( q -> p ) )", "( a1 ) ABDZE", []string{"wff p", "wff p; wff q", "|- ( p -> ( q -> p ) )", "|- ( p -> ( q -> p ) ); |- ( p -> ( q -> p ) )"}, verdict(api.ErrStack, 4)},
	} {
		db := theorem(t, x.formula, "?")
		m, e := New(db, number, strings.Fields(x.proof))
		if e != api.OK {
			t.Fatalf("%q: %d", x.proof, e)
		}
		left := ""
		for n, stack := range x.stacks {
			if m.Verdict() != open(n) || m.At() != n || stackOf(m) != left || !m.Step() {
				t.Errorf("%q ahead of step %d: %v, at %d, %q", x.proof, n, m.Verdict(), m.At(), stackOf(m))
			}
			left = stack
		}
		for range 2 {
			if m.Step() || m.At() != len(x.stacks) || stackOf(m) != left || m.Verdict() != x.verdict {
				t.Errorf("%q at its end: %v, at %d, %q", x.proof, m.Verdict(), m.At(), stackOf(m))
			}
		}
	}
}

// P7.1: when the verdict is known.
func TestKnown(t *testing.T) {
	for _, x := range []struct {
		proof   string
		steps   int
		verdict api.Verdict
	}{
		{"", 0, verdict(api.ErrStack, 0)},
		{"( )", 0, verdict(api.ErrStack, 0)},
		{"( ) D", 0, verdict(api.ErrCode, 0)},
		{strings.Repeat("wp ", api.MaxSteps+1), 0, verdict(api.ErrSteps, 0)},
		{"h", 0, verdict(api.ErrEnd, 0)},
		{"h", 1, verdict(api.OK, 0)},
		{"wp", 1, verdict(api.ErrProves, 1)},
		{"h h", 1, verdict(api.ErrEnd, 1)},
		{"h h", 2, verdict(api.ErrStack, 2)},
		{"?", 0, verdict(api.ErrEnd, 0)},
		{"?", 1, verdict(api.ErrUnknown, 0)},
		{"h no", 1, verdict(api.ErrEnd, 1)},
		{"h no", 2, verdict(api.ErrLabel, 1)},
		{"h no", 9, verdict(api.ErrLabel, 1)},
	} {
		m, e := New(theorem(t, "|- ( q -> p )", "?"), number, strings.Fields(x.proof))
		if e != api.OK {
			t.Fatalf("%q: %d", x.proof, e)
		}
		for range x.steps {
			m.Step()
		}
		if v := m.Verdict(); v != x.verdict {
			t.Errorf("%.40q behind %d calls: %v, want %v", x.proof, x.steps, v, x.verdict)
		}
	}
}

// P7.1: methods of nil, and of a machine that nobody made.
func TestNil(t *testing.T) {
	var m *Machine
	if m.Step() || m.Stack() != nil || m.At() != 0 || m.Verdict() != (api.Verdict{}) {
		t.Errorf("nil: %t, %v, %d, %v", m.Step(), m.Stack(), m.At(), m.Verdict())
	}
	m = &Machine{}
	if m.Step() || len(m.Stack()) != 0 || m.At() != 0 {
		t.Errorf("a zero value: %v, %d", m.Stack(), m.At())
	}
}

// P7.1: a machine keeps nothing of its arguments, and gives nothing away that it needs.
func TestOwn(t *testing.T) {
	db := database(t, logic+"${ $d x y p $. $d q p $. h $e |- ( q -> p ) $. t $p |- p $= ? $. $}")
	for _, proof := range []string{"wp vx vy ax wr h wr eq ex", "wp vx vy ax wr vx vy ax", "( wr vx vy ax eq ) AEFZHBHCHDI"} {
		words := strings.Fields(proof)
		m, _ := New(db, number, words)
		n, _ := New(db, number, slices.Clone(words))
		other := database(t, logic+"${ $d x y p $. $d q p $. h $e |- ( q -> p ) $. t $p |- p $= ? $. $}")
		k, _ := New(other, number, words)
		for i := range words {
			words[i] = "?"
		}
		spoil(other)
		for n.Step() {
			for _, text := range m.Stack() {
				text[0] = "spoiled"
				_ = append(text, "spoiled")
			}
			stack := m.Stack()
			if len(stack) > 0 {
				stack[0] = nil
			}
			m.Step()
			k.Step()
			if stackOf(m) != stackOf(n) || stackOf(k) != stackOf(n) {
				t.Errorf("%q: %q and %q, want %q", proof, stackOf(m), stackOf(k), stackOf(n))
			}
		}
		m.Step()
		k.Step()
		if m.Verdict() != n.Verdict() || k.Verdict() != n.Verdict() || n.At() == 0 {
			t.Errorf("%q: %v and %v, want %v", proof, m.Verdict(), k.Verdict(), n.Verdict())
		}
	}
}

// spoil changes all that a database has.
func spoil(db api.Database) {
	for i := range db.Frames {
		f := &db.Frames[i]
		for _, l := range [][]api.Hyp{f.Hyps, f.Dummies} {
			for j := range l {
				l[j].Text[len(l[j].Text)-1] = "spoiled"
				l[j].Label = "spoiled"
			}
		}
		for j := range f.Text {
			f.Text[j] = "spoiled"
		}
		clear(f.Apart)
		clear(f.Wide)
		f.Label = "spoiled"
	}
	clear(db.Variables)
}

// P7.1: no argument is changed, nor what lies behind a list's end.
func TestArguments(t *testing.T) {
	const text = logic + "${ $d x y p $. h $e |- ( q -> p ) $. t $p |- ( q -> p ) $= ( wi ) BADZC $. $}"
	roomy := func(l []string) []string { return append(make([]string, 0, len(l)+3), l...) }
	db := database(t, text)
	db.Variables = roomy(db.Variables)
	for i := range db.Frames {
		f := &db.Frames[i]
		f.Text, f.Proof = roomy(f.Text), roomy(f.Proof)
		for j := range f.Hyps {
			f.Hyps[j].Text = roomy(f.Hyps[j].Text)
		}
	}
	proof := roomy(strings.Fields("wp vx vy ax ?"))
	for range 2 {
		All(db)
		Theorem(db, number)
		Proof(db, number, proof)
		m, _ := New(db, number, proof)
		for m.Step() {
		}
	}
	same := func(a, b []string) bool {
		return slices.Equal(a, b) && !slices.ContainsFunc(a[:cap(a)][len(a):], func(s string) bool { return s != "" })
	}
	fresh := database(t, text)
	for i, f := range db.Frames {
		g := fresh.Frames[i]
		if !same(f.Text, g.Text) || !same(f.Proof, g.Proof) {
			t.Errorf("the frame %d is %v", i, f)
		}
		for j, h := range f.Hyps {
			if !same(h.Text, g.Hyps[j].Text) {
				t.Errorf("the hypothesis %d of %d is %v", j, i, h)
			}
		}
	}
	if !same(proof, strings.Fields("wp vx vy ax ?")) || !same(db.Variables, fresh.Variables) {
		t.Errorf("%q, %q", proof[:cap(proof)], db.Variables)
	}
}
