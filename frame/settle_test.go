package frame

import (
	"math/rand"
	"slices"
	"strings"
	"testing"

	"apodixis/api"
	"apodixis/layout"
)

// settled makes a database of frames, each of which is given by its Hyps and Dummies: the variable X has the floating hypothesis X0, and is a constant's type.
func settled(frames ...string) api.Database {
	db := api.Database{Constants: []string{"c"}, Variables: []string{"A", "B", "C"}}
	for i, s := range frames {
		f := api.Frame{Label: "f" + string(rune('a'+i)), Text: []string{"c"}}
		hyps, dummies, _ := strings.Cut(s, " ")
		for _, v := range hyps {
			if v == 'e' {
				f.Hyps = append(f.Hyps, api.Hyp{Label: "e" + f.Label, Text: []string{"c"}})
				continue
			}
			f.Hyps = append(f.Hyps, float(string(v)+"0", "c", string(v)))
			f.Text = append(f.Text, string(v))
		}
		for _, v := range dummies {
			f.Dummies = append(f.Dummies, float(string(v)+"0", "c", string(v)))
		}
		db.Frames = append(db.Frames, f)
	}
	return db
}

// P5.1: which databases are settled, and the order of their floating hypotheses.
func TestFloats(t *testing.T) {
	for _, x := range []struct {
		frames []string
		order  string
		e      api.Errno
	}{
		{[]string{"ABC"}, "ABC", api.OK}, {[]string{"CBA"}, "CBA", api.OK}, {[]string{" CBA"}, "CBA", api.OK}, {[]string{"C BA"}, "BAC", api.OK}, {[]string{"C AB"}, "ABC", api.OK}, {[]string{"C AB", "CA B"}, "CAB", api.OK},
		{[]string{"CA B", "B CA"}, "BCA", api.OK}, {[]string{"CB A", "A CB"}, "ACB", api.OK}, {[]string{"BAee C"}, "BAC", api.ErrTwice}, {[]string{"BAe C"}, "BAC", api.OK},
		{[]string{"BeA C"}, "", api.ErrState}, {[]string{"e CAB"}, "CAB", api.OK}, {[]string{"AB", "ABC"}, "", api.ErrState}, {[]string{"ABC", "AB"}, "", api.ErrState}, {[]string{"AB C", "BA C"}, "", api.ErrState},
		{[]string{"AB C", "BC A", "CA B"}, "", api.ErrState}, {[]string{"AB C", "BC A", "AC B"}, "ABC", api.OK}, {[]string{"C BA", "A CB"}, "CBA", api.OK}, {[]string{"C BA", "C AB"}, "", api.ErrState}, {nil, "", api.ErrState},
	} {
		db := settled(x.frames...)
		l, e := Floats(db)
		var order string
		for _, h := range l {
			order += h.Text[1]
			if !sameHyp(h, float(h.Text[1]+"0", "c", h.Text[1])) {
				t.Errorf("Floats of %q: %v", x.frames, h)
			}
		}
		if e != x.e || e == api.OK && order != x.order || e != api.OK && len(l) != 0 || Settled(db) != (e == api.OK) {
			t.Errorf("Floats of %q: %q, %d, want %q, %d", x.frames, order, e, x.order, x.e)
		}
		if _, f := Statements(db); f != e {
			t.Errorf("Statements of %q: %d", x.frames, f)
		}
	}
}

// P5.1: labels, variables and frames of databases that are settled or not.
func TestSettled(t *testing.T) {
	db := settled("AB C", "C AB")
	db.Frames[1].Dummies[0].Label = "other"
	if Check(db) != api.OK || Settled(db) {
		t.Errorf("two floating hypotheses of one variable: %d", Check(db))
	}
	db = settled("AB C")
	db.Variables = append(db.Variables, "D")
	if Check(db) != api.OK || Settled(db) {
		t.Errorf("a variable without a floating hypothesis: %d", Check(db))
	}
	db = settled("AB C")
	db.Frames[0].Proof = []string{"?"}
	if _, e := Floats(db); e != api.ErrForm || Settled(db) {
		t.Errorf("Floats of a wrong database: %d", e)
	}
	if _, e := Statements(db); e != api.ErrForm {
		t.Errorf("Statements of a wrong database: %d", e)
	}
	if l, e := Floats(api.Database{}); !Settled(api.Database{}) || len(l) != 0 || e != api.OK {
		t.Errorf("the empty database: %v, %d", l, e)
	}
	if !Settled(api.Database{Constants: []string{"c"}}) || Settled(api.Database{Variables: []string{"v"}}) {
		t.Errorf("databases without frames")
	}
}

// P5.1: the statements of a database, word by word.
func TestStatements(t *testing.T) {
	text := "$c c d $. $v x y $. wy $f c y $. wx $f c x $. a $a c $. ${ m $e c x $. ${ n $e d $. ${ $d x y $. t $p c x y $= ? $. $} $} ${ o $e d $. u $p c $= $. $} $} b $a d $. ${ k $e c $. e $a d $. $}"
	db := database(t, text)
	l, e := Statements(db)
	w, f := layout.Words(l)
	if e != api.OK || f != api.OK || strings.Join(w, " ") != text {
		t.Errorf("Statements: %q, %d, %d", w, e, f)
	}
	l[0].Text[0], l[2].Text[0] = "changed", "changed"
	if db.Constants[0] != "c" || db.Frames[0].Dummies[0].Text[0] != "c" {
		t.Errorf("Statements share memory with the database")
	}
	if l, e := Statements(api.Database{}); len(l) != 0 || e != api.OK {
		t.Errorf("Statements of nothing: %v, %d", l, e)
	}
}

// P5.1: the limits of statements.
func TestStatementsLimits(t *testing.T) {
	db := api.Database{Constants: symbols("c", 2*api.MaxSymbols+1)}
	if l, e := Statements(db); e != api.OK || len(l) != 3 || len(l[0].Text) != api.MaxSymbols || len(l[2].Text) != 1 {
		t.Errorf("Statements of many constants: %d, %d", len(l), e)
	}
	db.Constants = db.Constants[:api.MaxSymbols]
	if l, e := Statements(db); e != api.OK || len(l) != 1 {
		t.Errorf("Statements of %d constants: %d, %d", api.MaxSymbols, len(l), e)
	}
	db = api.Database{Constants: []string{"c"}, Variables: symbols("x", 3)}
	var wide []api.Pair
	for _, p := range [][2]string{{"x0", "x1"}, {"x0", "x2"}, {"x1", "x2"}} {
		wide = append(wide, api.Pair{A: p[0], B: p[1]})
	}
	for _, l := range symbols("f", 333) {
		f := api.Frame{Label: l, Text: []string{"c"}, Wide: wide}
		for _, v := range db.Variables {
			f.Dummies = append(f.Dummies, float("w"+v, "c", v))
		}
		db.Frames = append(db.Frames, f)
	}
	// A frame gives 6 statements, ahead of which there are 5: with an assertion more they are 2000 or more.
	db.Frames[0].Wide, db.Frames[1].Wide = nil, nil
	l, e := Statements(db)
	if e != api.OK || len(l) != 5+2+331*6 {
		t.Fatalf("Statements: %d, %d", len(l), e)
	}
	db.Frames[1].Wide = wide[:3]
	if l, e := Statements(db); e != api.OK || len(l) != 1998 {
		t.Errorf("Statements: %d, %d", len(l), e)
	}
	db.Frames[0].Hyps = []api.Hyp{{Label: "e", Text: []string{"c"}}}
	if l, e := Statements(db); len(l) != 0 || e != api.ErrFull {
		t.Errorf("a premise more: %d, %d", len(l), e)
	}
	db.Frames[0].Hyps, db.Constants = nil, symbols("c", 2*api.MaxSymbols+1)
	db.Constants[0] = "c"
	if l, e := Statements(db); len(l) != api.MaxStatements || e != api.OK {
		t.Errorf("the most statements: %d, %d", len(l), e)
	}
	db.Constants = append(db.Constants, symbols("d", api.MaxSymbols)...)
	if l, e := Statements(db); len(l) != 0 || e != api.ErrFull {
		t.Errorf("one statement too many: %d, %d", len(l), e)
	}
}

// outermost returns right statements whose variables and floating hypotheses stand first, and that have an assertion at the end.
func outermost(r *rand.Rand) []api.Statement {
	variables := []string{"x", "y", "z", "u"}
	head := []api.Statement{{Kind: api.Constants, Text: []string{"c", "d"}}, {Kind: api.Variables, Text: variables}}
	for _, i := range r.Perm(4) {
		head = append(head, api.Statement{Kind: api.Floating, Label: "w" + variables[i], Text: []string{[]string{"c", "d"}[i%2], variables[i]}})
	}
	for _, s := range random(r, 60)[3:] {
		if s.Kind != api.Floating && s.Kind != api.Variables {
			head = append(head, s)
		}
	}
	return append(head, api.Statement{Kind: api.Axiom, Label: "last", Text: []string{"c"}})
}

// P5.3 and P5.5: databases with outermost floating hypotheses are settled, and come back from their statements.
func TestBack(t *testing.T) {
	r := rand.New(rand.NewSource(53))
	for range 300 {
		l := outermost(r)
		db, _, e := Database(l)
		if e != api.OK || !Settled(db) {
			t.Fatalf("Database of %v: %d, %t", l, e, Settled(db))
		}
		s, e := Statements(db)
		again, _, f := Database(s)
		if e != api.OK || f != api.OK || !Equal(again, db) {
			t.Fatalf("Database of Statements of %v: %v, %d, %d", l, s, e, f)
		}
		back, e := Statements(again)
		v, _ := layout.Words(s)
		w, _ := layout.Words(back)
		if e != api.OK || !slices.Equal(v, w) {
			t.Fatalf("Statements again: %q, %q, %d", v, w, e)
		}
	}
}

// P5.3: whatever is settled comes back, with floating hypotheses in any place.
func TestBackOfAny(t *testing.T) {
	r := rand.New(rand.NewSource(55))
	count := 0
	for range 4000 {
		l := random(r, 25)
		db, _, _ := Database(l)
		s, e := Statements(db)
		if e != api.OK {
			continue
		}
		count++
		again, _, f := Database(s)
		if f != api.OK || !Equal(again, db) {
			t.Fatalf("Database of Statements of %v: %v, %d", l, s, f)
		}
	}
	if count < 100 {
		t.Errorf("only %d are settled", count)
	}
}
