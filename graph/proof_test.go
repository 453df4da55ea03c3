package graph

import (
	"math/rand"
	"slices"
	"strings"
	"testing"

	"apodixis/api"
	"apodixis/compress"
	"apodixis/frame"
	"apodixis/layout"
	"apodixis/verify"
)

// database returns the database of a text.
func database(t *testing.T, s string) api.Database {
	t.Helper()
	l, _, e := layout.Parse(strings.Fields(s))
	db, _, f := frame.Database(l)
	if e != api.OK || f != api.OK {
		t.Fatalf("%q: %d, %d", s, e, f)
	}
	return db
}

// logic has variables of two types, all of which are active, and axioms for each error of a step.
const logic = `$c wff set |- ( ) -> = $. $v p q r x y $.
wp $f wff p $. wq $f wff q $. wr $f wff r $. vx $f set x $. vy $f set y $.
wi $a wff ( p -> q ) $. ${ m $e |- p $. j $e |- ( p -> q ) $. mp $a |- q $. $}
a1 $a |- ( p -> ( q -> p ) ) $. ${ $d x p $. $d x y $. ax $a |- ( x = y -> p ) $. $}
emp $a |- = $. ex $a wff x $. x2 $a wff p p $. x3 $a wff p p ( $. eq $a |- ( = p ) $.
${ $d p x $. k $e |- ( = p ) $. big $a |- p p x $. $}
${ n $e |- p $. $v s $. ws $f wff s $. back $a |- s $. $} `

// number is that of the first assertion behind logic.
const number = 11

// theorem is a database of logic with the theorem t, which has the premise h, is of p and q, and has the number number.
func theorem(t *testing.T, formula, proof string) api.Database {
	t.Helper()
	return database(t, logic+"${ $d p x y $. h $e |- ( q -> p ) $. t $p "+formula+" $= "+proof+" $. $} late $a |- p $.")
}

func verdict(code api.Errno, step int) api.Verdict { return api.Verdict{Code: code, Step: step} }

// P9.1: the errors of functions with a database, in their order.
func TestErrors(t *testing.T) {
	db := theorem(t, "|- ( q -> p )", "h")
	wrong := api.Database{Frames: []api.Frame{{}}}
	for name, x := range map[string]struct {
		db       api.Database
		i        int
		p        api.Proof
		want, of api.Errno
	}{
		"a theorem":                     {db, number, proof("h"), api.OK, api.OK},
		"an axiom":                      {db, 0, proof("wp; wq; wi 0 1"), api.OK, api.ErrState},
		"the last assertion":            {db, number + 1, proof("wp"), api.OK, api.ErrState},
		"a proof of another one":        {theorem(t, "|- q", "h"), number, proof("h"), api.OK, api.ErrState},
		"an unknown step":               {theorem(t, "|- q", "?"), number, proof("h"), api.OK, api.ErrState},
		"an empty proof":                {theorem(t, "|- q", ""), number, proof("h"), api.OK, api.ErrState},
		"a proof of no format":          {theorem(t, "|- q", "( wi"), number, proof("h"), api.OK, api.ErrState},
		"no steps":                      {db, number, api.Proof{}, api.ErrSize, api.OK},
		"too many steps":                {db, number, chain(api.MaxSteps+1, 1), api.ErrSize, api.OK},
		"too many Args":                 {db, number, wide(50, api.MaxHyps+1), api.ErrSize, api.OK},
		"an Arg out of range":           {db, number, proof("h; h 1"), api.ErrRange, api.OK},
		"no assertion":                  {db, number + 2, api.Proof{}, api.ErrNone, api.ErrNone},
		"an assertion below 0":          {db, -1, proof("h; h 1"), api.ErrNone, api.ErrNone},
		"no assertions":                 {api.Database{}, 0, proof("h"), api.ErrNone, api.ErrNone},
		"a wrong database":              {wrong, 0, api.Proof{}, api.ErrForm, api.ErrForm},
		"a wrong one, and no assertion": {wrong, 7, proof("h"), api.ErrForm, api.ErrForm},
	} {
		if e := Check(x.db, x.i, x.p); e != x.want {
			t.Errorf("%s: Check: %d, want %d", name, e, x.want)
		}
		if l, e := Labels(x.db, x.i, x.p); e != x.want || (l == nil) != (e != api.OK) {
			t.Errorf("%s: Labels: %q, %d, want %d", name, l, e, x.want)
		}
		if l, v, e := Texts(x.db, x.i, x.p); e != x.want || (l == nil) != (e != api.OK) || e != api.OK && v != (api.Verdict{}) {
			t.Errorf("%s: Texts: %q, %v, %d, want %d", name, l, v, e, x.want)
		}
		if p, e := Of(x.db, x.i); e != x.of || (p.Steps == nil) != (e != api.OK) {
			t.Errorf("%s: Of: %v, %d, want %d", name, p, e, x.of)
		}
	}
}

// P9.1: the graphs of normal and compressed proofs.
func TestOf(t *testing.T) {
	for _, x := range []struct{ formula, words, want string }{
		{"|- ( q -> p )", "h", "h"},
		{"|- ( q -> p )", "( ) C", "h"},
		{"|- =", "( emp ) D", "emp"},
		{"wff r", "wr", "wr"},
		{"wff ( p -> p )", "wp wp wi", "wp; wp; wi 0 1"},
		{"wff ( p -> p )", "( wi ) AAD", "wp; wp; wi 0 1"},
		{"wff ( p -> p )", "( wi ) AZED", "wp; wi 0 0"},
		{"wff ( p -> p )", "( wi ) AZEZD", "wp; wi 0 0"},
		{"wff ( ( p -> q ) -> ( p -> q ) )", "( wi ) ABDZED", "wp; wq; wi 0 1; wi 2 2"},
		{"wff ( p p -> ( p p -> p p ) )", "( wi x2 ) AEZFZGDD", "wp; x2 0; wi 1 1; wi 1 2"},
		{"wff ( ( p -> p ) -> ( p -> p ) )", "( wi ) AAD ZE ZD", "wp; wp; wi 0 1; wi 2 2"},
		{"|- ( r -> ( q -> p ) )", "wq wp wi wr wq wp wi wi h wq wp wi wr a1 mp", "wq; wp; wi 0 1; wr; wq; wp; wi 4 5; wi 3 6; h; wq; wp; wi 9 10; wr; a1 11 12; mp 2 7 8 13"},
		{"|- ( r -> ( q -> p ) )", "( wi a1 mp ) BAEZCHEZDZHCFZGZ", "wq; wp; wi 0 1; wr; wi 3 2; h; wr; a1 2 6; mp 2 4 5 7"},
	} {
		db := theorem(t, x.formula, x.words)
		p, e := Of(db, number)
		if e != api.OK || !same(p, proof(x.want)) {
			t.Errorf("Of %q: %v, %d, want %q", x.words, p, e, x.want)
		}
		if q, v, e := compress.Decode(db, number); compress.Is(db.Frames[number].Proof) && (e != api.OK || v.Code != api.OK || !same(p, q)) {
			t.Errorf("Decode of %q: %v, %v, %d", x.words, q, v, e)
		}
		if l, v, e := Texts(db, number, p); e != api.OK || v != (api.Verdict{}) || len(l) != len(p.Steps) {
			t.Errorf("Texts of %q: %q, %v, %d", x.words, l, v, e)
		}
		expanded, _ := Expand(p, api.MaxSteps)
		l, e := Labels(db, number, p)
		if e != api.OK || len(l) != len(expanded.Steps) {
			t.Errorf("Labels of %q: %q, %d", x.words, l, e)
		}
		if v, e := verify.Proof(db, number, l); e != api.OK || v != (api.Verdict{}) {
			t.Errorf("the verdict of %q: %v, %d", l, v, e)
		}
	}
}

// P9.1: Labels asks only for the tree, and for its size.
func TestLabels(t *testing.T) {
	db := theorem(t, "|- p", "?")
	for p, want := range map[string]string{
		"a; b 0 0; b 1 1": "a a b a a b b",
		"wp":              "wp",
		"z; ?; ( 1":       "? (",
		"wi; wp; mp 1 0":  "wp wi mp",
	} {
		if l, e := Labels(db, number, proof(p)); e != api.OK || !slices.Equal(l, strings.Fields(want)) {
			t.Errorf("Labels of %q: %q, %d", p, l, e)
		}
	}
	for _, x := range []struct {
		p    api.Proof
		want api.Errno
		size int
	}{
		{chain(api.MaxSteps, 1), api.OK, api.MaxSteps}, {chain(10, 2), api.OK, 1<<10 - 1}, {chain(11, 2), api.ErrLarge, 0},
		{sized(api.MaxSteps), api.OK, api.MaxSteps}, {sized(api.MaxSteps + 1), api.ErrLarge, 0}, {chain(api.MaxSteps, api.MaxHyps), api.ErrLarge, 0},
	} {
		if l, e := Labels(db, number, x.p); e != x.want || len(l) != x.size {
			t.Errorf("Labels of %d steps: %d, %d, want %d", len(x.p.Steps), len(l), e, x.want)
		}
	}
}

// proved writes a normal proof without wrong numbers of Args as a graph, in which each step is an Arg once.
func proved(db api.Database, words string) api.Proof {
	var p api.Proof
	var stack []int
	for _, w := range strings.Fields(words) {
		x := api.Step{Label: w}
		if i := frame.Find(db, w); i >= 0 {
			rest := len(stack) - len(db.Frames[i].Hyps)
			x.Args, stack = slices.Clone(stack[rest:]), stack[:rest]
		}
		stack = append(stack, len(p.Steps))
		p.Steps = append(p.Steps, x)
	}
	return p
}

// P9.1: the formulas of steps, and their errors in their order.
func TestTexts(t *testing.T) {
	const most = api.MaxFormula - 1 // without the typecode
	for _, x := range []struct {
		formula, steps string
		want           api.Verdict
		last           string // the last formula
	}{
		{"|- ( q -> p )", "h", verdict(api.OK, 0), "|- ( q -> p )"},
		{"wff r", "wr", verdict(api.OK, 0), "wff r"},
		{"|- ( p -> ( q -> p ) )", "wp; wq; a1 0 1", verdict(api.OK, 0), "|- ( p -> ( q -> p ) )"},
		{"|- ( q -> p )", "wp; wq; a1 1 0", verdict(api.ErrProves, 3), "|- ( q -> ( p -> q ) )"},
		{"|- ( q -> p )", "h; wp", verdict(api.ErrProves, 2), "wff p"},
		{"|- ( q -> p )", "wp; wq; vx; h", verdict(api.OK, 0), "|- ( q -> p )"}, // steps that are not needed
		{"|- ( q -> p )", "wp; wi 0 0; no; h", verdict(api.ErrLabel, 2), "wff ( p -> p )"},
		{"|- ( q -> p )", "?", verdict(api.ErrUnknown, 0), ""},
		{"|- ( q -> p )", "wp; ? 0", verdict(api.ErrUnknown, 1), "wff p"},
		{"|- ( q -> p )", "wp; ??", verdict(api.ErrLabel, 1), "wff p"},
		{"|- ( q -> p )", "wp; wq 0", verdict(api.ErrStack, 1), "wff p"},
		{"|- ( q -> p )", "wp; wr 0", verdict(api.ErrStack, 1), "wff p"},
		{"|- ( q -> p )", "wp; h 0", verdict(api.ErrStack, 1), "wff p"},
		{"|- ( q -> p )", "wp; wi 0", verdict(api.ErrStack, 1), "wff p"},
		{"|- ( q -> p )", "wp; wi 0 0 0", verdict(api.ErrStack, 1), "wff p"},
		{"|- ( q -> p )", "wp; wi", verdict(api.ErrStack, 1), "wff p"},
		{"|- ( q -> p )", "wp; emp 0", verdict(api.ErrStack, 1), "wff p"},
		{"|- ( q -> p )", "vx; wi 0 0 0", verdict(api.ErrStack, 1), "set x"},
		{"|- ( q -> p )", "vx; no 0", verdict(api.ErrLabel, 1), "set x"},
		{"|- ( q -> p )", "t", verdict(api.ErrLabel, 0), ""},
		{"|- ( q -> p )", "wp; late 0", verdict(api.ErrLabel, 1), "wff p"},
		{"|- ( q -> p )", "wp; m", verdict(api.ErrLabel, 1), "wff p"}, // of another assertion
		{"|- ( q -> p )", "vx; wi 0 0", verdict(api.ErrKind, 1), "set x"},
		{"|- ( q -> p )", "vx; wp; wi 1 0", verdict(api.ErrKind, 2), "wff p"},
		{"|- ( q -> p )", "h; wi 0 0", verdict(api.ErrKind, 1), "|- ( q -> p )"},
		{"|- p", "wq; wp; h; wi 0 1; mp 0 1 2 2", verdict(api.ErrMatch, 4), "wff ( q -> p )"},
		{"|- p", "wq; wp; h; wi 0 1; mp 3 1 2 2", verdict(api.ErrMatch, 4), "wff ( q -> p )"},
		{"|- p", "wq; wp; h; wi 0 1; a1 3 0; mp 3 1 2 4", verdict(api.ErrMatch, 5), "|- ( ( q -> p ) -> ( q -> ( q -> p ) ) )"},
		{"|- ( q -> ( q -> p ) )", "wq; wp; h; wi 0 1; wi 0 3; a1 3 0; mp 3 4 2 5", verdict(api.OK, 0), "|- ( q -> ( q -> p ) )"},
		{"|- p", "wp; vx; eq 0; big 0 1 2", verdict(api.ErrProves, 4), "|- p p x"},
		{"|- p", "wp; vx; wq; eq 2; big 0 1 3", verdict(api.ErrMatch, 4), "|- ( = q )"},
		{"|- p", "wq; vx; eq 0; big 0 1 2", verdict(api.ErrApart, 3), "|- ( = q )"},
		{"|- p", "vx; ex 0; eq 1; big 1 0 2", verdict(api.ErrApart, 3), "|- ( = x )"},
		{"|- p", "vx; vy; ex 0; eq 2; big 2 1 3; ?", verdict(api.ErrUnknown, 5), "|- x x y"},
		{"|- p", "wp; emp; back 0 1 0", verdict(api.ErrMatch, 2), "|- ="},
		{"|- p", "wp; emp; vx; back 0 1 2", verdict(api.ErrKind, 3), "set x"},
	} {
		l, v, e := Texts(theorem(t, x.formula, "?"), number, proof(x.steps))
		last := ""
		if len(l) > 0 {
			last = strings.Join(l[len(l)-1], " ")
		}
		count := x.want.Step
		if x.want.Code == api.OK {
			count = len(proof(x.steps).Steps)
		}
		if e != api.OK || v != x.want || last != x.last || len(l) != count {
			t.Errorf("Texts of %q: %q, %v, %d, want %v", x.steps, l, v, e, x.want)
		}
	}
	for _, x := range []struct {
		words string
		want  api.Errno // of the last step
	}{
		{size("wp", most), api.OK}, {size("wp", most+1), api.ErrLarge},
		{size("vx ex", 1500) + " vx " + size("vx ex", 1500) + " eq big", api.ErrLarge}, // and ErrApart
		{size("vx ex", 1500) + " vx wp eq big", api.ErrMatch},
		{size("vx ex", 1500) + " wp wp eq big", api.ErrKind},
	} {
		db := theorem(t, "|- p", "?")
		p := proved(db, x.words)
		want := verdict(x.want, len(p.Steps)-1)
		if x.want == api.OK {
			want = verdict(api.ErrProves, len(p.Steps))
		}
		if l, v, e := Texts(db, number, p); e != api.OK || v != want || len(l) != want.Step {
			t.Errorf("Texts of %q: %v, %d, want %v", x.words, v, e, want)
		}
	}
}

// size returns a normal proof of wff and n symbols, all made of what begin proves.
func size(begin string, n int) string {
	if n == 1 {
		return begin
	}
	if n%2 == 0 {
		return size(begin, n/2) + " x2"
	}
	return size(begin, n/2) + " x3"
}

// one returns one of several words.
func one(r *rand.Rand, l ...string) string { return l[r.Intn(len(l))] }

// randomWff returns a proof of wff, and what it proves to be one.
func randomWff(r *rand.Rand, depth int) (words, text string) {
	if depth == 0 || r.Intn(3) == 0 {
		v := one(r, "p", "q", "r", "x", "y")
		if v == "x" || v == "y" {
			return "v" + v + " ex", v
		}
		return "w" + v, v
	}
	a, s := randomWff(r, depth-1)
	b, u := randomWff(r, depth-1)
	return a + " " + b + " wi", "( " + s + " -> " + u + " )"
}

// randomProof returns a proof, the formula without its typecode, and a proof that this is a wff, if it may be used further.
func randomProof(r *rand.Rand, depth int) (words, text, wff string) {
	a, s := randomWff(r, 2)
	b, u := randomWff(r, 1)
	switch {
	case depth == 0:
		return a + " vx vy ax", "( x = y -> " + s + " )", ""
	case r.Intn(3) == 0:
		return a + " " + b + " a1", "( " + s + " -> ( " + u + " -> " + s + " ) )", a + " " + b + " " + a + " wi wi"
	case r.Intn(3) == 0:
		return "h", "( q -> p )", "wq wp wi"
	}
	w, v, f := randomProof(r, max(depth-1, 1))
	return strings.Join([]string{f, a, f, "wi", w, f, a, "a1 mp"}, " "), "( " + s + " -> " + v + " )", a + " " + f + " wi"
}

// P9.1, P9.3: graphs of random proofs: Texts of them agrees with the first verifier.
func TestProofs(t *testing.T) {
	r := rand.New(rand.NewSource(93))
	codes := map[api.Errno]int{}
	for range 1500 {
		words, text, _ := randomProof(r, r.Intn(4))
		db := theorem(t, "|- "+text, words)
		p := proved(db, words)
		if r.Intn(3) == 0 { // one step is another one, perhaps
			s := r.Intn(len(p.Steps))
			p.Steps[s].Label = one(r, "wp", "vx", "wi", "a1", "mp", "?", "no", p.Steps[s].Label)
		}
		shared, _ := Share(p)
		ordered, _ := Ordered(p)
		_, v, e := Texts(db, number, p)
		if e != api.OK {
			t.Fatalf("Texts of %v: %d", p, e)
		}
		codes[v.Code]++
		wanted := v
		if l, e := Labels(db, number, p); e == api.OK && !slices.ContainsFunc(p.Steps, func(x api.Step) bool { return misused(db, x) }) {
			if wanted, e = verify.Proof(db, number, l); e != api.OK || wanted != v {
				t.Fatalf("Texts of %v: %v, and of %q: %v", p, v, l, wanted)
			}
		}
		if wanted != (api.Verdict{}) {
			continue
		}
		for _, q := range []api.Proof{shared, ordered} {
			if l, v, e := Texts(db, number, q); e != api.OK || v != (api.Verdict{}) || len(l) != len(q.Steps) {
				t.Fatalf("Texts of %v: %v, %d", q, v, e)
			}
			db.Frames[number].Proof, e = compress.Proof(db, number, q)
			own, f := Of(db, number)
			if e != api.OK || f != api.OK || whole(own) != whole(p) {
				t.Fatalf("Of %q: %v, %d, want the tree of %v", db.Frames[number].Proof, own, f, p)
			}
			l, e := Labels(db, number, own)
			if v, f := verify.Proof(db, number, l); e != api.OK || f != api.OK || v != (api.Verdict{}) {
				t.Fatalf("Labels of Of: %q, %d: %v", l, e, v)
			}
		}
	}
	for _, e := range []api.Errno{api.OK, api.ErrApart, api.ErrKind, api.ErrUnknown, api.ErrStack, api.ErrMatch, api.ErrProves} {
		if codes[e] < 3 {
			t.Errorf("the verdict %d came %d times: %v", e, codes[e], codes)
		}
	}
}

// misused reports whether a step has not as many Args as its label asks for, so that a normal proof is read otherwise.
func misused(db api.Database, x api.Step) bool {
	if _, ok := frame.Hyp(db.Frames[number], x.Label); ok {
		return len(x.Args) > 0
	}
	i := frame.Find(db, x.Label)
	return i >= 0 && len(x.Args) != len(db.Frames[i].Hyps)
}

// P9.1: functions with a database change none of their arguments, and what they return is new.
func TestDatabaseMemory(t *testing.T) {
	const words = "( wi a1 mp ) BAEZCHEZDZHCFZGZ"
	db, fresh := theorem(t, "|- ( r -> ( q -> p ) )", words), theorem(t, "|- ( r -> ( q -> p ) )", words)
	p := proof("wq; wp; wi 0 1; wr; wi 3 2; h; wr; a1 2 6; mp 2 4 5 7")
	for range 2 {
		own, _ := Of(db, number)
		for s := range own.Steps {
			own.Steps[s].Label = "spoiled"
			clear(own.Steps[s].Args)
		}
		l, v, e := Texts(db, number, p)
		if v != (api.Verdict{}) || e != api.OK {
			t.Fatalf("Texts: %v, %d", v, e)
		}
		for s, text := range l {
			for i := range text {
				text[i] = "spoiled"
			}
			if s+1 < len(l) && l[s+1][0] == "spoiled" {
				t.Errorf("the formulas %d and %d share memory", s, s+1)
			}
		}
		labels, _ := Labels(db, number, p)
		labels[0] = "spoiled"
	}
	if !frame.Equal(db, fresh) || !same(p, proof("wq; wp; wi 0 1; wr; wi 3 2; h; wr; a1 2 6; mp 2 4 5 7")) {
		t.Errorf("arguments changed: %v, %v", db, p)
	}
}
