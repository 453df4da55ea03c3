package natural

import (
	"math/rand"
	"testing"

	"apodixis/api"
)

// anyTerm, anyFormula and anyDerivation return any values.
func anyTerm(r *rand.Rand, depth int) Term {
	t := Term{Name: pick(r, "x y $ f v0"), Index: r.Intn(4) - 1}
	if r.Intn(3) == 0 {
		t.Name = ""
	}
	for range r.Intn(3) * min(depth, 1) {
		t.Args = append(t.Args, anyTerm(r, depth-1))
	}
	return t
}

func anyFormula(r *rand.Rand, depth int) Formula {
	if r.Intn(3) > 0 {
		return randomSpoken(r, nil, min(depth, 3)).formula()
	}
	f := Formula{Kind: r.Intn(11) - 1, Name: pick(r, "p $ x")}
	if r.Intn(2) == 0 {
		f.Name = ""
	}
	for range r.Intn(4) {
		f.Terms = append(f.Terms, anyTerm(r, depth))
	}
	for range r.Intn(3) * min(depth, 1) {
		f.Parts = append(f.Parts, anyFormula(r, depth-1))
	}
	return f
}

func anyDerivation(r *rand.Rand, depth int) Derivation {
	d := Derivation{Rule: r.Intn(21) - 1, Index: r.Intn(5) - 2, Name: pick(r, "x y $ a"), Term: anyTerm(r, 2), Formula: anyFormula(r, 2)}
	for range r.Intn(4) * min(depth, 1) {
		d.Kids = append(d.Kids, anyDerivation(r, depth-1))
	}
	return d
}

// P1: whatever the arguments are, all functions return; with an error they return nothing else, but for a path.
func TestAnyArguments(t *testing.T) {
	for seed := range 5000 {
		r := rand.New(rand.NewSource(int64(seed)))
		f, g, x, name := anyFormula(r, 4), anyFormula(r, 4), anyTerm(r, 3), pick(r, "x y $ v0")
		e := Well(f)
		h, e1 := Instance(f, x)
		i, e2 := Abstract(6+r.Intn(3), f, name)
		j, e3 := Replaced(f, name, x)
		s, e4 := Text(f)
		is, e5 := Holds(f, []string{"p"})
		if e != api.OK && (e1 != e || e2 != e && e2 != api.ErrArg || e3 != e || e4 != e || e5 != e) {
			t.Fatalf("%v: %d, but %d, %d, %d, %d, %d", f, e, e1, e2, e3, e4, e5)
		}
		if isZero(h) != (e1 != api.OK) || isZero(i) != (e2 != api.OK) || isZero(j) != (e3 != api.OK) || (s == "") != (e4 != api.OK) || is && e5 != api.OK {
			t.Fatalf("%v: %d, %d, %d, %d, %d", f, e1, e2, e3, e4, e5)
		}
		for _, y := range []Formula{h, i, j} {
			if !isZero(y) && Well(y) != api.OK {
				t.Fatalf("%v, %v: %v", f, x, y)
			}
		}
		if !Same(f, f) || Same(f, g) != Same(g, f) {
			t.Fatalf("%v, %v", f, g)
		}
		Free(f)
		d := anyDerivation(r, 3)
		if nodes, depth := Size(d); nodes < depth || depth < 1 {
			t.Fatalf("%v: %d, %d", d, nodes, depth)
		}
		if c, path, e := Check([]Formula{f}, []Formula{g}, d); isZero(c) != (e != api.OK) || e == api.OK && (len(path) > 0 || Well(c) != api.OK) {
			t.Fatalf("%v: %v, %v, %d", d, c, path, e)
		}
		text := ""
		for range r.Intn(12) {
			text += pick(r, "$A $E $> $& $| $= $F $( $) x p f $ é $x") + " "
		}
		if c, at, e := Parse(text); isZero(c) != (e != api.OK) || at < 0 || at > len(text) || e == api.OK && at != 0 {
			t.Fatalf("%q: %v, %d, %d", text, c, at, e)
		}
	}
}
