package frame

import (
	"math/rand"
	"slices"
	"strconv"
	"strings"
	"testing"

	"apodixis/api"
	"apodixis/layout"
	"apodixis/scope"
)

// parse returns the statements of a text.
func parse(t *testing.T, s string) []api.Statement {
	t.Helper()
	l, _, e := layout.Parse(strings.Fields(s))
	if e != api.OK {
		t.Fatalf("Parse of %q: %d", s, e)
	}
	return l
}

// database returns the database of a text.
func database(t *testing.T, s string) api.Database {
	t.Helper()
	db, at, e := Database(parse(t, s))
	if e != api.OK {
		t.Fatalf("Database of %q: %d, %d", s, at, e)
	}
	return db
}

const base = "$c wff |- $. $v p q r $. wp $f wff p $. wq $f wff q $. wr $f wff r $. " // 5 statements

func float(label, code, variable string) api.Hyp {
	return api.Hyp{Label: label, Floating: true, Text: []string{code, variable}}
}

// P5.1: the frames of a text.
func TestDatabase(t *testing.T) {
	db := database(t, base+"${ $d q r $. $d p r q $. m $e |- p $. i $a |- q $. ${ n $e |- $. $} $} t $p |- r r $= ( i ) ? $. $c x $. ${ $v s $. $} ${ $v s p2 $. $}")
	wp, wq, wr := float("wp", "wff", "p"), float("wq", "wff", "q"), float("wr", "wff", "r")
	pq, pr, qr := api.Pair{A: "p", B: "q"}, api.Pair{A: "p", B: "r"}, api.Pair{A: "q", B: "r"}
	want := api.Database{
		Constants: []string{"wff", "|-", "x"}, Variables: []string{"p", "q", "r", "s", "p2"},
		Frames: []api.Frame{
			{Label: "i", Hyps: []api.Hyp{wp, wq, {Label: "m", Text: []string{"|-", "p"}}}, Apart: []api.Pair{pq}, Text: []string{"|-", "q"}, Dummies: []api.Hyp{wr}, Wide: []api.Pair{pq, pr, qr}},
			{Label: "t", Theorem: true, Hyps: []api.Hyp{wr}, Text: []string{"|-", "r", "r"}, Dummies: []api.Hyp{wp, wq}, Proof: []string{"(", "i", ")", "?"}},
		},
	}
	if !Equal(db, want) {
		t.Errorf("Database: %v, want %v", db, want)
	}
	if db, at, e := Database(nil); e != api.OK || at != 0 || !Equal(db, api.Database{}) {
		t.Errorf("Database of nothing: %v, %d, %d", db, at, e)
	}
}

// P5.1: the errors of Database, in their order.
func TestDatabaseErrors(t *testing.T) {
	many := func(n int) string {
		s := "$c x $. "
		for i := range n {
			s += "a" + strconv.Itoa(i) + " $a x $. "
		}
		return s
	}
	floats := func(n int) string {
		s := "$c x $. "
		for i := range n {
			v := strconv.Itoa(i)
			s += "$v v" + v + " $. f" + v + " $f x v" + v + " $. "
		}
		return s
	}
	premises := func(n int) string {
		s := "$c x $. ${ "
		for i := range n {
			s += "e" + strconv.Itoa(i) + " $e x $. "
		}
		return s + "a $a x $. $}"
	}
	for name, x := range map[string]struct {
		text string
		at   int
		e    api.Errno
	}{
		"a broken rule":                  {base + "a $a p $.", 5, scope.ErrConstant},
		"an open scope":                  {base + "a $a |- $. ${", 6, scope.ErrScopes},
		"the most frames":                {many(api.MaxFrames), 0, api.OK},
		"one frame too many":             {many(api.MaxFrames + 1), api.MaxFrames + 1, api.ErrFull},
		"too many frames and an open ${": {many(api.MaxFrames+1) + "${", api.MaxFrames + 2, scope.ErrScopes},
		"the most premises":              {premises(api.MaxHyps), 0, api.OK},
		"one premise too many":           {premises(api.MaxHyps + 1), api.MaxHyps + 3, api.ErrSize},
		"the most dummies":               {floats(api.MaxHyps) + "a $a x $.", 0, api.OK},
		"one dummy too many":             {floats(api.MaxHyps+1) + "a $a x $.", 2*api.MaxHyps + 3, api.ErrSize},
		"one dummy is mandatory":         {floats(api.MaxHyps+1) + "a $a x v3 $.", 0, api.OK},
	} {
		db, at, e := Database(parse(t, x.text))
		if at != x.at || e != x.e || e != api.OK && !Equal(db, api.Database{}) {
			t.Errorf("%s: %d, %d, want %d, %d", name, at, e, x.at, x.e)
		}
	}
	if _, at, e := Database([]api.Statement{{Kind: api.Open}, {}}); at != 1 || e != api.ErrForm {
		t.Errorf("a statement that is not well-formed: %d, %d", at, e)
	}
	if _, at, e := Database(make([]api.Statement, api.MaxStatements+1)); at != 0 || e != api.ErrFull {
		t.Errorf("too many statements: %d, %d", at, e)
	}
}

// P5.1: frames where anything is active, and the errors in their order.
func TestOf(t *testing.T) {
	axiom := func(text string) api.Statement {
		return api.Statement{Kind: api.Axiom, Label: "a", Text: strings.Fields(text)}
	}
	odd := scope.Active{
		Variables: []string{"p", "q", "p", "c", ""},
		Hyps:      []api.Hyp{float("1", "c", "q"), {Label: "2", Text: []string{"p"}}, float("3", "d", "p"), float("1", "c", "p"), {Label: "4", Floating: true, Text: []string{"p"}}, {Label: "5", Floating: true}, {}},
		Apart:     []api.Pair{{A: "q", B: "p"}, {A: "p", B: "p"}, {A: "p", B: "p"}, {A: "x", B: "p"}},
		Depth:     -3,
	}
	f, e := Of(odd, axiom("z"))
	want := api.Frame{
		Label: "a", Text: []string{"z"}, Hyps: []api.Hyp{odd.Hyps[1], odd.Hyps[2], odd.Hyps[3], odd.Hyps[6]}, Dummies: []api.Hyp{odd.Hyps[0], odd.Hyps[4], odd.Hyps[5]},
		Apart: odd.Apart[1:3], Wide: odd.Apart,
	}
	if e != api.OK || !sameFrame(f, want) {
		t.Errorf("Of: %v, %d, want %v", f, e, want)
	}
	f.Hyps[0].Text[0], f.Wide[0].A = "changed", "changed"
	if odd.Hyps[1].Text[0] != "p" || odd.Apart[0].A != "q" {
		t.Errorf("Of shares memory with what is active")
	}
	if f, e := Of(odd, api.Statement{Kind: api.Theorem, Label: "t", Text: []string{"q"}, Proof: []string{"?"}}); e != api.OK || !f.Theorem || len(f.Hyps) != 5 || len(f.Apart) != 3 || !slices.Equal(f.Proof, []string{"?"}) {
		t.Errorf("Of a theorem: %v, %d", f, e)
	}
	hyps := func(n int, h api.Hyp) scope.Active {
		return scope.Active{Variables: []string{"p"}, Hyps: slices.Repeat([]api.Hyp{h}, n)}
	}
	for name, x := range map[string]struct {
		a scope.Active
		s api.Statement
		e api.Errno
	}{
		"not well-formed":              {odd, api.Statement{Kind: api.Open, Label: "a"}, api.ErrForm},
		"no kind":                      {odd, api.Statement{}, api.ErrForm},
		"no formula":                   {odd, axiom(""), api.ErrForm},
		"a wrong proof word":           {odd, api.Statement{Kind: api.Theorem, Label: "t", Text: []string{"q"}, Proof: []string{"!"}}, api.ErrForm},
		"no assertion":                 {odd, api.Statement{Kind: api.Close}, api.ErrArg},
		"a hypothesis":                 {odd, api.Statement{Kind: api.Essential, Label: "a", Text: []string{"c"}}, api.ErrArg},
		"a variable that is not typed": {odd, axiom("z c"), ErrFrame},
		"a first symbol not typed":     {odd, axiom("c"), ErrFrame},
		"a premise that is not typed":  {scope.Active{Variables: []string{"p"}, Hyps: []api.Hyp{{Text: []string{"c", "p"}}}}, axiom("c"), ErrFrame},
		"not typed by a long one":      {hyps(1, api.Hyp{Floating: true, Text: []string{"c", "p", "p"}}), axiom("c p"), ErrFrame},
		"not typed, and too many":      {hyps(api.MaxHyps+1, float("w", "c", "q")), axiom("c p"), ErrFrame},
		"the most hypotheses":          {hyps(api.MaxHyps, float("w", "c", "p")), axiom("c p"), api.OK},
		"one hypothesis too many":      {hyps(api.MaxHyps+1, float("w", "c", "p")), axiom("c p"), api.ErrSize},
		"the most dummies":             {hyps(api.MaxHyps, float("w", "c", "p")), axiom("c"), api.OK},
		"one dummy too many":           {hyps(api.MaxHyps+1, float("w", "c", "p")), axiom("c"), api.ErrSize},
		"nothing is active":            {scope.Active{}, axiom("c p"), api.OK},
	} {
		if f, e := Of(x.a, x.s); e != x.e || e != api.OK && !sameFrame(f, api.Frame{}) {
			t.Errorf("%s: %v, %d, want %d", name, f, e, x.e)
		}
	}
}

// P5.1: the functions that take any database.
func TestFind(t *testing.T) {
	odd := api.Database{
		Variables: []string{"p", "q", "p"}, Constants: []string{"p", "c"},
		Frames: []api.Frame{
			{Label: "a", Hyps: []api.Hyp{{Label: "w", Floating: true, Text: []string{"x"}}, {Label: "v", Text: []string{"y", "p"}}}, Dummies: []api.Hyp{float("d", "z", "p")}},
			{Label: "b", Hyps: []api.Hyp{float("d", "u", "q"), float("e", "u", "p")}, Dummies: []api.Hyp{float("w", "t", "q")}},
			{Label: "a"},
		},
	}
	if Find(odd, "a") != 0 || Find(odd, "b") != 1 || Find(odd, "w") != -1 || Find(api.Database{}, "") != -1 {
		t.Errorf("Find")
	}
	if Type(odd, "p") != "z" || Type(odd, "q") != "u" || Type(odd, "x") != "" || Type(api.Database{}, "p") != "" {
		t.Errorf("Type")
	}
	if !IsVariable(odd, "p") || !IsVariable(odd, "q") || IsVariable(odd, "c") || IsVariable(api.Database{}, "") {
		t.Errorf("IsVariable")
	}
	if h, ok := Hyp(odd.Frames[0], "w"); !ok || !sameHyp(h, odd.Frames[0].Hyps[0]) {
		t.Errorf("Hyp: %v", h)
	}
	if h, ok := Hyp(odd.Frames[1], "w"); !ok || h.Text[0] != "t" {
		t.Errorf("Hyp of a dummy: %v", h)
	}
	if h, ok := Hyp(odd.Frames[1], "v"); ok || !sameHyp(h, api.Hyp{}) {
		t.Errorf("Hyp of another frame: %v", h)
	}
	if l := Mandatory(odd, [][]string{{"c", "q"}, nil, {"p", "q", "x"}}); !slices.Equal(l, []string{"q", "p"}) {
		t.Errorf("Mandatory: %q", l)
	}
	if l := Mandatory(odd, nil); len(l) != 0 {
		t.Errorf("Mandatory of nothing: %q", l)
	}
}

// copyOf returns a database that shares no memory with db.
func copyOf(db api.Database) api.Database {
	db.Constants, db.Variables, db.Frames = slices.Clone(db.Constants), slices.Clone(db.Variables), slices.Clone(db.Frames)
	for i := range db.Frames {
		f := &db.Frames[i]
		f.Apart, f.Wide, f.Text, f.Proof = slices.Clone(f.Apart), slices.Clone(f.Wide), slices.Clone(f.Text), slices.Clone(f.Proof)
		f.Hyps, f.Dummies = slices.Clone(f.Hyps), slices.Clone(f.Dummies)
		for j := range f.Hyps {
			f.Hyps[j] = copied(f.Hyps[j])
		}
		for j := range f.Dummies {
			f.Dummies[j] = copied(f.Dummies[j])
		}
	}
	return db
}

// P5.1: databases that differ in one field.
func TestEqual(t *testing.T) {
	db := database(t, base+"${ $d p q $. m $e |- p $. i $p |- q $= ? $. $} $c x $.")
	if !Equal(db, copyOf(db)) || !Equal(api.Database{Constants: []string{}, Frames: []api.Frame{}}, api.Database{}) {
		t.Errorf("equal databases are not")
	}
	for i, change := range []func(db *api.Database){
		func(db *api.Database) { db.Constants[0] = "x" }, func(db *api.Database) { db.Variables = db.Variables[1:] }, func(db *api.Database) { db.Frames = append(db.Frames, api.Frame{}) },
		func(db *api.Database) { db.Frames[0].Label = "x" }, func(db *api.Database) { db.Frames[0].Theorem = false }, func(db *api.Database) { db.Frames[0].Hyps[0].Label = "x" },
		func(db *api.Database) { db.Frames[0].Hyps[0].Floating = false }, func(db *api.Database) { db.Frames[0].Hyps[2].Text[1] = "x" }, func(db *api.Database) { db.Frames[0].Apart[0].B = "x" },
		func(db *api.Database) { db.Frames[0].Text[0] = "x" }, func(db *api.Database) { db.Frames[0].Dummies = nil }, func(db *api.Database) { db.Frames[0].Wide = nil }, func(db *api.Database) { db.Frames[0].Proof[0] = "x" },
	} {
		other := copyOf(db)
		change(&other)
		if Equal(db, other) || Equal(other, db) {
			t.Errorf("the change %d is not seen", i)
		}
	}
}

// random returns right statements with nested scopes, premises, variables, disjointness and assertions.
func random(r *rand.Rand, most int) []api.Statement {
	l := []api.Statement{{Kind: api.Constants, Text: []string{"c", "d"}}, {Kind: api.Variables, Text: []string{"x", "y"}}, {Kind: api.Floating, Label: "wx", Text: []string{"c", "x"}}}
	choose := func(s string) string { return string(s[r.Intn(len(s))]) }
	depth := 0
	for i := range r.Intn(most + 1) {
		s := api.Statement{Kind: 2 + r.Intn(8)}
		switch s.Kind {
		case api.Variables:
			s.Text = []string{choose("xyzu")}
		case api.Floating:
			s.Text = []string{choose("cccd"), choose("xyzu")}
		case api.Disjoint:
			s.Text = []string{choose("xyzu"), choose("xyzu"), choose("xyzu")}[:2+r.Intn(2)]
		case api.Essential, api.Axiom, api.Theorem:
			s.Text = []string{choose("cd"), choose("cxyzu"), choose("dxyzu")}
		}
		switch s.Kind {
		case api.Floating, api.Essential, api.Axiom, api.Theorem:
			s.Label = "l" + strconv.Itoa(i)
		}
		if s.Kind == api.Theorem {
			s.Proof = []string{"(", "?"}[:r.Intn(3)]
		}
		more := append(slices.Clone(l), s)
		if a, e := scope.At(more, len(more)); e == api.OK {
			l, depth = more, a.Depth
		}
	}
	for range depth {
		l = append(l, api.Statement{Kind: api.Close})
	}
	return l
}

// modelledFrame is the frame of an assertion, as the terms of the document tell it.
func modelledFrame(a scope.Active, s api.Statement) api.Frame {
	f := api.Frame{Label: s.Label, Theorem: s.Kind == api.Theorem, Text: s.Text, Wide: a.Apart, Proof: s.Proof}
	texts := [][]string{s.Text}
	for _, h := range a.Hyps {
		if !h.Floating {
			texts = append(texts, h.Text)
		}
	}
	symbols := slices.Concat(texts...)
	isMandatory := func(v string) bool { return slices.Contains(a.Variables, v) && slices.Contains(symbols, v) }
	for _, h := range a.Hyps {
		if h.Floating && !isMandatory(h.Text[1]) {
			f.Dummies = append(f.Dummies, h)
		} else {
			f.Hyps = append(f.Hyps, h)
		}
	}
	for _, p := range a.Apart {
		if isMandatory(p.A) && isMandatory(p.B) {
			f.Apart = append(f.Apart, p)
		}
	}
	return f
}

// P5.2 and P5.4: a database is right, and its frames are those of what is active at the assertions.
func TestFrames(t *testing.T) {
	r := rand.New(rand.NewSource(54))
	frames := 0
	for range 1000 {
		l := random(r, 60)
		db, _, e := Database(l)
		if e != api.OK || Check(db) != api.OK {
			t.Fatalf("Database of %v: %d, %d", l, e, Check(db))
		}
		n := 0
		for i, s := range l {
			if s.Kind != api.Axiom && s.Kind != api.Theorem {
				continue
			}
			a, _ := scope.At(l, i)
			f, e := Of(a, s)
			if e != api.OK || !sameFrame(f, db.Frames[n]) || !sameFrame(f, modelledFrame(a, s)) {
				t.Fatalf("the frame %d of %v: %v, %d, want %v", n, l, db.Frames[n], e, f)
			}
			if len(f.Hyps)+len(f.Dummies) != len(a.Hyps) {
				t.Fatalf("the hypotheses of %v: %v", f, a.Hyps)
			}
			n++
		}
		if n != len(db.Frames) {
			t.Fatalf("%d frames instead of %d", len(db.Frames), n)
		}
		frames += n
	}
	if frames < 1500 {
		t.Errorf("only %d frames", frames)
	}
}
