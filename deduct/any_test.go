package deduct

import (
	"math/rand"
	"slices"
	"strings"
	"testing"

	"apodixis/api"
	"apodixis/carry"
	"apodixis/natural"
)

// garbage makes any values.
type garbage struct{ maker }

func (g garbage) term(depth int) natural.Term {
	t := natural.Term{Name: g.pick("x y $ _ wt p wel"), Index: g.Intn(4) - 1}
	if t.Name == "_" || g.Intn(3) == 0 {
		t.Name = ""
	}
	if g.Intn(2) == 0 {
		t.Index = 0
	}
	for range g.Intn(3) * min(depth, 1) {
		t.Args = append(t.Args, g.term(depth-1))
	}
	return t
}

func (g garbage) formula(depth int) natural.Formula {
	if g.Intn(3) > 0 {
		return g.maker.formula(min(depth, 3))
	}
	f := natural.Formula{Kind: g.Intn(11) - 1, Name: g.pick("p P wt wel $ x")}
	if g.Intn(2) == 0 {
		f.Name = ""
	}
	for range g.Intn(4) {
		f.Terms = append(f.Terms, g.term(depth))
	}
	for range g.Intn(3) * min(depth, 1) {
		f.Parts = append(f.Parts, g.formula(depth-1))
	}
	return f
}

func (g garbage) derivation(depth int) natural.Derivation {
	d := natural.Derivation{Rule: g.Intn(21) - 1, Index: g.Intn(5) - 2, Name: g.pick("x y $ z"), Term: g.term(2), Formula: g.formula(2)}
	for range g.Intn(4) * min(depth, 1) {
		d.Kids = append(d.Kids, g.derivation(depth-1))
	}
	return d
}

func (g garbage) lines() []Line {
	var l []Line
	for range g.Intn(6) {
		x := Line{Label: g.pick("m g s f t d v p r e _ no"), Formula: g.formula(3), Name: g.pick("x _ $")}
		x.Label, x.Name = strings.Trim(x.Label, "_"), strings.Trim(x.Name, "_")
		for range g.Intn(3) {
			x.From = append(x.From, g.Intn(8)-2)
		}
		l = append(l, x)
	}
	return l
}

// P1: whatever the arguments are, all functions return; with an error they return nothing else.
func TestAnyArguments(t *testing.T) {
	db := database(t, whole+"th $p |- ( p -> ( q -> p ) ) $= wp wq a1 $. ${ e $e |- p $. th2 $p |- p $= e $. $}")
	for seed := range 1500 {
		g := garbage{maker{rand.New(rand.NewSource(int64(seed)))}}
		var hyps []natural.Formula
		for range g.Intn(3) {
			hyps = append(hyps, g.formula(2))
		}
		l := logic()
		given := g.lines()
		if n, e := Check(l, given, hyps); n != 0 && e != ErrLine {
			t.Fatalf("%v: %d, %d", given, n, e)
		}
		for name, work := range map[string]func() ([]Line, api.Errno){
			"Lift":  func() ([]Line, api.Errno) { return Lift(l, given, hyps) },
			"Trim":  func() ([]Line, api.Errno) { return Trim(given) },
			"Lines": func() ([]Line, api.Errno) { return Lines(l, hyps, g.derivation(2)) },
		} {
			if x, e := work(); (len(x) == 0) != (e != api.OK) {
				t.Fatalf("%s: %v, %d", name, x, e)
			}
		}
		if seed%10 > 0 {
			continue
		}
		other := db
		other.Frames = slices.Clone(db.Frames)
		f := &other.Frames[g.Intn(len(other.Frames))]
		switch g.Intn(6) {
		case 0:
			f.Theorem = !f.Theorem
		case 1:
			f.Text = slices.Clone(f.Text)
			f.Text[g.Intn(len(f.Text))] = g.pick("p x wff |- ( T. set")
		case 2:
			f.Label = g.pick("wi wt x $")
		case 3:
			f.Hyps = f.Hyps[:g.Intn(len(f.Hyps)+1)]
		}
		logic := full()
		if g.Intn(2) == 0 {
			logic = carry.Logic{Imp: g.pick("wi wa"), Mp: "mp", Simp: g.pick("a1 a2"), Set: g.pick("set wff none"), Eq: g.pick("weq wel wi")}
		}
		i := g.Intn(len(db.Frames)+4) - 2
		if x, e := Tree(other, logic, i, g.formula(3)); isEmpty(x) != (e != api.OK) {
			t.Fatalf("Tree: %v, %d", x, e)
		}
		if x, e := Proof(other, logic, i, g.derivation(2)); (len(x.Steps) == 0) != (e != api.OK) {
			t.Fatalf("Proof: %v, %d", x, e)
		}
		if x, e := carry.Proof(other, logic, i); (x.Derivation.Rule == 0) != (e != api.OK) {
			t.Fatalf("carry.Proof: %v, %d", x, e)
		}
		if x, e := carry.Guess(other); (x == carry.Logic{}) != (e != api.OK) {
			t.Fatalf("Guess: %v, %d", x, e)
		}
		if x, e := carry.Closed(other, logic, g.formula(3)); (x.Kind == 0) != (e != api.OK) {
			t.Fatalf("Closed: %v, %d", x, e)
		}
	}
}
