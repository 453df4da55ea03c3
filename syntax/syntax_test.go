package syntax

import (
	"math/rand"
	"slices"
	"strconv"
	"strings"
	"testing"

	"apodixis/api"
	"apodixis/certify"
	"apodixis/frame"
	"apodixis/grammar"
	"apodixis/layout"
	"apodixis/table"
	"apodixis/verify"
)

// database returns the database of a text.
func database(t *testing.T, s string) api.Database {
	t.Helper()
	l, _, e := layout.Parse(strings.Fields(s))
	db, _, f := frame.Database(l)
	if e != api.OK || f != api.OK {
		t.Fatalf("%q: %d, %d", s, e, f)
	}
	return db
}

// logic has three sorts, an axiom without kids, and one whose variables stand in another order than their hypotheses.
const logic = `$c wff class set |- ( ) -> -. = { | } A. T. $. $v ph ps ch x y A B $.
vx $f set x $. wph $f wff ph $. vy $f set y $. wps $f wff ps $. wch $f wff ch $. cA $f class A $. cB $f class B $.
wn $a wff -. ph $. wi $a wff ( ph -> ps ) $. tru $a wff T. $. cv $a class x $. weq $a wff B = A $. cab $a class { x | ph } $. wal $a wff A. x ph $.
ax $a |- ( ph -> ph ) $. `

// ambiguous has formulas with several trees, with infinitely many, and with none.
const ambiguous = `$c wff set |- . $. $v ph ps x $. wph $f wff ph $. wps $f wff ps $. vx $f set x $. two $a wff ph ps $. one $a wff x $. self $a set x . $. `

// readTree returns the tree that a text stands for.
func readTree(t *testing.T, s string) api.Tree {
	t.Helper()
	x, e := Read(s)
	if e != api.OK {
		t.Fatalf("%q: %d", s, e)
	}
	return x
}

// written returns the text of a tree, also of one that is none of a database.
func written(t api.Tree) string {
	s := t.Label
	for i, k := range t.Kids {
		s += []string{"(", ","}[min(i, 1)] + written(k)
	}
	if len(t.Kids) > 0 {
		s += ")"
	}
	return s
}

// random returns a tree of logic with a sort.
func random(r *rand.Rand, sort string, depth int) api.Tree {
	labels := map[string][]string{"wff": {"wph", "wps", "wch", "tru", "wn", "wi", "weq", "wal"}, "class": {"cA", "cB", "cv", "cab"}, "set": {"vx", "vy"}}[sort]
	kids := map[string]string{"wn": "wff", "wi": "wff wff", "weq": "class class", "cv": "set", "cab": "set wff", "wal": "set wff"}
	label := labels[r.Intn(len(labels))]
	if depth < 2 && label != "cv" {
		label = labels[r.Intn(2)]
	}
	t := api.Tree{Label: label}
	for _, s := range strings.Fields(kids[label]) {
		t.Kids = append(t.Kids, random(r, s, depth-1))
	}
	return t
}

var sortsOf = [...]string{"wff", "class", "set"}

// P17.1: the document's example, and others by hand.
func TestExamples(t *testing.T) {
	db := database(t, logic)
	for _, x := range []struct{ formula, want, proof, variables string }{
		{"|- ( ph -> -. ps )", "wi(wph,wn(wps))", "wph wps wn wi", "wph wps"},
		{"wff ( ph -> -. ps )", "wi(wph,wn(wps))", "wph wps wn wi", "wph wps"},
		{"wff T.", "tru", "tru", ""},
		{"set x", "vx", "vx", "vx"},
		{"class x", "cv(vx)", "vx cv", "vx"},
		{"wff x = { y | ph }", "weq(cab(vy,wph),cv(vx))", "vy wph cab vx cv weq", "vy wph vx"},
		{"|- A. x A = B", "wal(vx,weq(cB,cA))", "vx cB cA weq wal", "vx cB cA"},
	} {
		formula := strings.Fields(x.formula)
		tree, e := Tree(db, formula)
		if e != api.OK || written(tree) != x.want {
			t.Errorf("%q: %s, %d, want %s", x.formula, written(tree), e, x.want)
		}
		if s, e := Write(tree); e != api.OK || s != x.want {
			t.Errorf("%q: %q, %d", x.formula, s, e)
		}
		if l, e := Proof(db, tree); e != api.OK || strings.Join(l, " ") != x.proof {
			t.Errorf("the proof of %q: %q, %d, want %q", x.formula, l, e, x.proof)
		}
		if l, e := Variables(db, tree); e != api.OK || strings.Join(l, " ") != x.variables {
			t.Errorf("the variables of %q: %q, %d, want %q", x.formula, l, e, x.variables)
		}
		formula[0] = grammar.Sort(formula[0])
		if l, e := Text(db, tree); e != api.OK || !slices.Equal(l, formula) {
			t.Errorf("the text of %s: %q, %d, want %q", x.want, l, e, formula)
		}
		if s, e := Check(db, tree); e != api.OK || s != formula[0] {
			t.Errorf("the sort of %s: %q, %d", x.want, s, e)
		}
	}
	l, e := Places(db, readTree(t, "weq(cab(vy,wph),cv(vx))"))
	want := []Place{{nil, "wff"}, {[]int{0}, "class"}, {[]int{0, 0}, "set"}, {[]int{0, 1}, "wff"}, {[]int{1}, "class"}, {[]int{1, 0}, "set"}}
	if e != api.OK || !slices.EqualFunc(l, want, func(a, b Place) bool { return a.Sort == b.Sort && slices.Equal(a.Path, b.Path) }) {
		t.Errorf("places: %v, %d", l, e)
	}
}

// chain returns a tree of nodes with one kid each, and another one below.
func chain(n int, last string) api.Tree {
	t := api.Tree{Label: last}
	for range n - 1 {
		t = api.Tree{Label: "wn", Kids: []api.Tree{t}}
	}
	return t
}

// P17.1: the errors of Tree, in their order.
func TestTreeErrors(t *testing.T) {
	db := database(t, logic)
	double := database(t, ambiguous+"ax $a |- ph $.")
	circle := database(t, ambiguous+"same $a wff ph $. ax $a |- ph $.")
	// A formula without symbols has a tree of 9 by 9 by 9 by 9 nodes, and some.
	s, floats := "$c wff d c b n |- $. $v w ", ""
	names := map[string]string{}
	for _, sort := range []string{"d", "c", "b", "n"} {
		for i := range 9 {
			v := sort + strconv.Itoa(i)
			names[sort] += v + " "
			floats += "f" + v + " $f " + sort + " " + v + " $. "
		}
		s += names[sort]
	}
	large := database(t, s+"$. fw $f wff w $. "+floats+"xw $a wff "+names["d"]+"$. xd $a d "+names["c"]+"$. xc $a c "+names["b"]+"$. xb $a b "+names["n"]+"$. xn $a n $.")
	for name, x := range map[string]struct {
		db      api.Database
		formula []string
		want    api.Errno
	}{
		"a wrong database":      {api.Database{Frames: []api.Frame{{}}}, nil, api.ErrForm},
		"an unsettled one":      {api.Database{Constants: []string{"wff"}, Variables: []string{"x"}}, nil, api.ErrState},
		"nothing":               {db, nil, api.ErrForm},
		"no such sort":          {db, append([]string{"formula"}, make([]string, 201)...), api.ErrType},
		"no sorts":              {api.Database{}, []string{"|-"}, api.ErrType},
		"a typecode of no sort": {database(t, "$c class |- $. $v A $. cA $f class A $. a $a |- A $."), []string{"|-", "A"}, api.ErrType},
		"too long":              {db, append([]string{"wff"}, make([]string, 201)...), api.ErrSize},
		"long":                  {db, append([]string{"wff"}, make([]string, 200)...), ErrParse},
		"only a typecode":       {db, []string{"wff"}, ErrParse},
		"a turnstile inside":    {db, strings.Fields("|- |- ph"), ErrParse},
		"no formula":            {db, strings.Fields("|- ( ph -> ps"), ErrParse},
		"another sort":          {db, strings.Fields("class ph"), ErrParse},
		"one tree":              {double, strings.Fields("wff ph ph"), api.OK},
		"two trees":             {double, strings.Fields("wff ph ph ph"), ErrAmbiguous},
		"very many trees":       {double, append([]string{"|-"}, slices.Repeat([]string{"ph"}, 60)...), ErrAmbiguous},
		"a large forest":        {double, append([]string{"|-"}, slices.Repeat([]string{"ph"}, 100)...), api.ErrLarge},
		"infinitely many trees": {circle, strings.Fields("|- ph"), ErrAmbiguous},
		"a large tree":          {large, []string{"wff"}, api.ErrSize},
		"a part of it":          {large, []string{"d"}, api.OK},
	} {
		tree, e := Tree(x.db, x.formula)
		if e != x.want || e != api.OK && !Equal(tree, api.Tree{}) {
			t.Errorf("%s: %v, %d, want %d", name, tree, e, x.want)
		}
	}
	for n, want := range map[int]api.Errno{100: api.OK, 101: api.ErrDepth, 200: api.ErrDepth} {
		formula := slices.Repeat([]string{"-."}, n+1)
		formula[0], formula[n] = "|-", "ph"
		tree, e := Tree(db, formula)
		if e != want || e == api.OK && !Equal(tree, chain(n, "wph")) || e != api.OK && !Equal(tree, api.Tree{}) {
			t.Errorf("%d deep: %d, want %d", n, e, want)
		}
	}
}

// P17.1: the errors of the trees, for all functions with a database, in their order.
func TestErrorsOfTrees(t *testing.T) {
	db := database(t, logic)
	wide := api.Tree{Label: "wn", Kids: make([]api.Tree, api.MaxNodes)}
	shared := api.Tree{Label: "tru"}
	for range 80 {
		shared = api.Tree{Label: "wi", Kids: []api.Tree{shared, shared}}
	}
	for name, x := range map[string]struct {
		db   api.Database
		t    api.Tree
		want api.Errno
	}{
		"right":                        {db, chain(100, "tru"), api.OK},
		"a wrong database":             {api.Database{Frames: []api.Frame{{}}}, wide, api.ErrForm},
		"too many nodes":               {db, wide, api.ErrSize},
		"too many nodes, and too deep": {db, chain(4001, "x"), api.ErrSize},
		"two to the 80th nodes":        {db, shared, api.ErrSize},
		"too deep":                     {db, chain(101, "tru"), api.ErrDepth},
		"too deep, and no tree":        {db, chain(4000, "x"), api.ErrDepth},
		"no such label":                {db, chain(3, "x"), ErrTree},
		"an assertion":                 {db, api.Tree{Label: "ax", Kids: []api.Tree{{Label: "wph"}}}, ErrTree},
		"a work variable":              {db, api.Tree{Label: "&wff.0"}, ErrTree},
		"an empty tree":                {db, api.Tree{}, ErrTree},
		"no kids":                      {db, chain(3, "wn"), ErrTree},
		"kids of a variable":           {db, api.Tree{Label: "wph", Kids: []api.Tree{{Label: "wph"}}}, ErrTree},
		"a kid too many":               {db, api.Tree{Label: "wn", Kids: []api.Tree{{Label: "wph"}, {Label: "wph"}}}, ErrTree},
		"a kid of another sort":        {db, chain(3, "cA"), ErrTree},
		"without a grammar":            {api.Database{}, chain(1, "tru"), ErrTree},
	} {
		if l, e := Text(x.db, x.t); e != x.want || e != api.OK && l != nil {
			t.Errorf("%s: Text: %q, %d, want %d", name, l, e, x.want)
		}
		if s, e := Check(x.db, x.t); e != x.want || e != api.OK && s != "" {
			t.Errorf("%s: Check: %q, %d, want %d", name, s, e, x.want)
		}
		if l, e := Variables(x.db, x.t); e != x.want || l != nil {
			t.Errorf("%s: Variables: %q, %d, want %d", name, l, e, x.want)
		}
		if l, e := Places(x.db, x.t); e != x.want || e != api.OK && l != nil {
			t.Errorf("%s: Places: %v, %d, want %d", name, l, e, x.want)
		}
		if l, e := Proof(x.db, x.t); e != x.want || e != api.OK && l != nil {
			t.Errorf("%s: Proof: %q, %d, want %d", name, l, e, x.want)
		}
		wrong := []Change{{Label: "x"}}
		if u, e := Subst(x.db, x.t, nil); e != x.want || e != api.OK && !Equal(u, api.Tree{}) {
			t.Errorf("%s: Subst: %v, %d, want %d", name, u, e, x.want)
		}
		if _, e := Subst(x.db, x.t, wrong); x.want != api.OK && e != x.want {
			t.Errorf("%s: Subst with a wrong change: %d, want %d", name, e, x.want)
		}
		if x.want == api.OK || len(x.db.Frames) < 2 {
			continue // no other tree of the database is right
		}
		if u, e := Subst(x.db, readTree(t, "tru"), []Change{{"wph", x.t}, {"wph", x.t}}); e != x.want || !Equal(u, api.Tree{}) {
			t.Errorf("%s: Subst with it: %v, %d, want %d", name, u, e, x.want)
		}
	}
}

// P17.1: formulas up to the limit of symbols.
func TestTextLimit(t *testing.T) {
	db := database(t, "$c wff |- a $. $v p q $. wp $f wff p $. wq $f wff q $. ten $a wff a a a a a a a a a a $. one $a wff a $. both $a wff p q $.")
	x := api.Tree{Label: "ten"}
	for range 7 {
		x = api.Tree{Label: "both", Kids: []api.Tree{x, x}} // 1280 symbols
	}
	for n, want := range map[int]api.Errno{0: api.OK, 71: api.OK, 72: api.OK, 73: api.ErrLarge, 80: api.ErrLarge} {
		y := x
		for i := range n {
			kid := api.Tree{Label: "ten"}
			if i >= 72 {
				kid = api.Tree{Label: "one"}
			}
			y = api.Tree{Label: "both", Kids: []api.Tree{y, kid}}
		}
		l, e := Text(db, y)
		if e != want || e == api.OK && len(l) != 1281+10*n || e != api.OK && l != nil {
			t.Errorf("%d more: %d symbols, %d, want %d", n, len(l), e, want)
		}
		if sort, e := Check(db, y); e != api.OK || sort != "wff" {
			t.Errorf("%d more: Check: %q, %d", n, sort, e)
		}
	}
}

// P17.2: Tree of Text is the tree, Text of Tree the formula, and the same of Read and Write.
func TestThereAndBack(t *testing.T) {
	r := rand.New(rand.NewSource(172))
	db := database(t, logic)
	for i := range 300 {
		sort := sortsOf[i%3]
		x := random(r, sort, 6)
		formula, e := Text(db, x)
		if e != api.OK || formula[0] != sort {
			t.Fatalf("%s: %q, %d", written(x), formula, e)
		}
		back, e := Tree(db, formula)
		if e != api.OK || !Equal(back, x) {
			t.Fatalf("%q: %s, %d, want %s", formula, written(back), e, written(x))
		}
		s, e := Write(x)
		back, f := Read(s)
		if e != api.OK || f != api.OK || s != written(x) || !Equal(back, x) {
			t.Fatalf("%q, %d, and back %s, %d", s, e, written(back), f)
		}
	}
}

// P5 of DOC.md: where the certificate is Unique, the parser of its table finds the one tree, or none.
func TestOneTree(t *testing.T) {
	r := rand.New(rand.NewSource(5))
	db := database(t, logic)
	g, _ := grammar.Of(db)
	l, e := certify.All(g, 3)
	if e != api.OK || len(l) != len(sortsOf) {
		t.Fatalf("%v, %d", l, e)
	}
	for _, c := range l {
		if c.Kind != certify.Unique || certify.Check(g, c) != api.OK {
			t.Fatalf("the certificate of %s: %d", c.Sort, c.Kind)
		}
		for range 50 {
			formula, _ := Text(db, random(r, c.Sort, 4))
			if r.Intn(2) == 0 {
				i, j := 1+r.Intn(len(formula)-1), 1+r.Intn(len(formula)-1)
				formula[i], formula[j] = formula[j], formula[i]
			}
			x, e := Tree(db, formula)
			y, _, f := table.Parse(g, c.Table, formula[1:])
			if e == api.OK && (f != api.OK || !Equal(x, y)) || e != api.OK && (e != ErrParse || f != table.ErrParse) {
				t.Fatalf("%q: %s, %d, by the table %s, %d", formula, written(x), e, written(y), f)
			}
		}
	}
}

// P17.3: the text of a substitution; two of them, one behind the other; and that of nothing.
func TestSubst(t *testing.T) {
	r := rand.New(rand.NewSource(173))
	db := database(t, logic)
	variables := map[string]string{"wph": "wff", "wps": "wff", "wch": "wff", "vx": "set", "vy": "set", "cA": "class", "cB": "class"}
	changes := func() []Change {
		var l []Change
		for _, v := range []string{"wph", "vx", "cA", "wps", "wch", "vy", "cB"} {
			if r.Intn(2) == 0 {
				l = append(l, Change{v, random(r, variables[v], 3)})
			}
		}
		r.Shuffle(len(l), func(i, j int) { l[i], l[j] = l[j], l[i] })
		return l
	}
	subst := func(x api.Tree, l []Change) api.Tree {
		y, e := Subst(db, x, l)
		if e != api.OK {
			t.Fatalf("%s by %v: %d", written(x), l, e)
		}
		return y
	}
	text := func(x api.Tree) []string {
		l, _ := Text(db, x)
		return l[1:]
	}
	for i := range 200 {
		x, a, b := random(r, sortsOf[i%3], 4), changes(), changes()
		y := subst(x, a)
		images := map[string][]string{}
		for _, c := range a {
			images[text(api.Tree{Label: c.Label})[0]] = text(c.Tree)
		}
		var want []string
		for _, s := range text(x) {
			if image, ok := images[s]; ok {
				want = append(want, image...)
			} else {
				want = append(want, s)
			}
		}
		if got := text(y); !slices.Equal(got, want) {
			t.Fatalf("%s by %v: %q, want %q", written(x), a, got, want)
		}
		var both []Change
		for _, c := range a {
			both = append(both, Change{c.Label, subst(c.Tree, b)})
		}
		for _, c := range b {
			if !slices.ContainsFunc(a, func(d Change) bool { return d.Label == c.Label }) {
				both = append(both, c)
			}
		}
		if one, two := subst(x, both), subst(y, b); !Equal(one, two) {
			t.Fatalf("%s by %v and %v: %s, at once %s", written(x), a, b, written(two), written(one))
		}
		if same := subst(x, nil); !Equal(same, x) {
			t.Fatalf("%s by nothing: %s", written(x), written(same))
		}
	}
}

// P17.1: the errors of changes, in their order, and of what is too large or too deep then.
func TestSubstErrors(t *testing.T) {
	db := database(t, logic)
	tree := func(s string) api.Tree { return readTree(t, s) }
	// The tree has 2047 nodes and 1024 leaves.
	wide := tree("wph")
	for range 10 {
		wide = api.Tree{Label: "wi", Kids: []api.Tree{wide, wide}}
	}
	for name, x := range map[string]struct {
		t    api.Tree
		l    []Change
		want string
		e    api.Errno
	}{
		"an exchange":               {tree("wi(wph,wps)"), []Change{{"wph", tree("wps")}, {"wps", tree("wph")}}, "wi(wps,wph)", api.OK},
		"a variable that is absent": {tree("wn(wph)"), []Change{{"cA", tree("cB")}}, "wn(wph)", api.OK},
		"itself":                    {tree("wn(wph)"), []Change{{"wph", tree("wn(wph)")}}, "wn(wn(wph))", api.OK},
		"no variable":               {tree("wph"), []Change{{"tru", tree("tru")}}, "", api.ErrArg},
		"an empty label":            {tree("wph"), []Change{{"", tree("tru")}}, "", api.ErrArg},
		"a symbol":                  {tree("wph"), []Change{{"ph", tree("tru")}}, "", api.ErrArg},
		"no variable, a wrong tree": {tree("wph"), []Change{{"tru", chain(101, "tru")}}, "", api.ErrArg},
		"twice":                     {tree("wph"), []Change{{"wph", tree("tru")}, {"wph", tree("tru")}}, "", api.ErrTwice},
		"twice, a wrong tree":       {tree("wph"), []Change{{"wph", tree("tru")}, {"wph", chain(101, "tru")}}, "", api.ErrTwice},
		"another sort":              {tree("wph"), []Change{{"wph", tree("cA")}}, "", api.ErrType},
		"a wrong tree":              {tree("wph"), []Change{{"cA", tree("wn")}}, "", ErrTree},
		"a deep tree":               {tree("wps"), []Change{{"wph", chain(101, "tru")}}, "", api.ErrDepth},
		"the first error":           {tree("wph"), []Change{{"wps", tree("cA")}, {"tru", tree("tru")}}, "", api.ErrType},
		"the first error, no label": {tree("wph"), []Change{{"tru", tree("tru")}, {"wps", tree("cA")}}, "", api.ErrArg},
		"100 deep":                  {chain(50, "wph"), []Change{{"wph", chain(51, "tru")}}, written(chain(100, "tru")), api.OK},
		"101 deep":                  {chain(50, "wph"), []Change{{"wph", chain(52, "tru")}}, "", api.ErrDepth},
		"too large":                 {wide, []Change{{"wph", tree("wn(wn(wph))")}}, "", api.ErrSize},
		"too large and too deep":    {wide, []Change{{"wph", chain(100, "tru")}}, "", api.ErrSize},
		"much too large":            {wide, []Change{{"wph", wide}}, "", api.ErrSize},
		"large":                     {wide, []Change{{"wph", tree("wn(wph)")}}, "?", api.OK},
	} {
		got, e := Subst(db, x.t, x.l)
		if e != x.e || x.want != "?" && written(got) != x.want {
			t.Errorf("%s: %s, %d, want %s, %d", name, written(got), e, x.want, x.e)
		}
	}
	// Of 2053 nodes three become trees of m nodes, and one of two: 2050 and 3 m and more.
	x := tree("wps")
	for range 10 {
		x = api.Tree{Label: "wi", Kids: []api.Tree{x, x}}
	}
	y := api.Tree{Label: "wi", Kids: []api.Tree{x, tree("wi(wi(wph,wph),wph)")}}
	for m, want := range map[int]api.Errno{649: api.OK, 650: api.OK, 651: api.ErrSize} {
		z, e := Subst(db, y, []Change{{"wph", wideOf(m)}})
		if n, _ := Size(z); e != want || e == api.OK && n != 2050+3*m {
			t.Errorf("%d nodes, %d, want %d", n, e, want)
		}
	}
	y.Kids[1] = tree("wi(wph,wps)")
	for m, want := range map[int]api.Errno{1950: api.OK, 1951: api.ErrSize} { // 2050 nodes beside
		if _, e := Subst(db, y, []Change{{"wph", wideOf(m)}}); e != want {
			t.Errorf("%d nodes: %d, want %d", 2050+m, e, want)
		}
	}
}

// wideOf returns a tree of n nodes.
func wideOf(n int) api.Tree {
	if n%2 == 0 {
		return api.Tree{Label: "wn", Kids: []api.Tree{wideOf(n - 1)}}
	}
	if n == 1 {
		return api.Tree{Label: "tru"}
	}
	half := (n - 1) / 2
	return api.Tree{Label: "wi", Kids: []api.Tree{wideOf(half), wideOf(n - 1 - half)}}
}

// P17.4: parts of trees.
func TestParts(t *testing.T) {
	r := rand.New(rand.NewSource(174))
	db := database(t, logic)
	for i := range 200 {
		x := random(r, sortsOf[i%3], 5)
		before := written(x)
		l, e := Places(db, x)
		if n, _ := Size(x); e != api.OK || len(l) != n {
			t.Fatalf("%s: %v, %d", written(x), l, e)
		}
		for _, p := range l {
			part, e := At(x, p.Path)
			sort, f := Check(db, part)
			if e != api.OK || f != api.OK || sort != p.Sort {
				t.Fatalf("%s at %v: %s, %d, %q, %d, want %q", written(x), p.Path, written(part), e, sort, f, p.Sort)
			}
			if same, e := Put(x, p.Path, part); e != api.OK || !Equal(same, x) {
				t.Fatalf("%s with its part at %v: %s, %d", written(x), p.Path, written(same), e)
			}
			other := random(r, p.Sort, 3)
			y, e := Put(x, p.Path, other)
			if got, f := At(y, p.Path); e != api.OK || f != api.OK || !Equal(got, other) {
				t.Fatalf("%s with %s at %v: %s, %d", written(x), written(other), p.Path, written(y), e)
			}
			if sort, e := Check(db, y); e != api.OK || sort != l[0].Sort {
				t.Fatalf("%s: %q, %d", written(y), sort, e)
			}
			if written(x) != before {
				t.Fatalf("%s was changed: %s", before, written(x))
			}
		}
	}
	x := readTree(t, "a(b,c(d,e))")
	for _, path := range [][]int{{2}, {-1}, {0, 0}, {1, 2}, {1, 1, 0}, {1, -1}, {0, 0, 0, 0}} {
		if part, e := At(x, path); e != api.ErrNone || !Equal(part, api.Tree{}) {
			t.Errorf("at %v: %v, %d", path, part, e)
		}
		if y, e := Put(x, path, x); e != api.ErrNone || !Equal(y, api.Tree{}) {
			t.Errorf("with a part at %v: %v, %d", path, y, e)
		}
	}
	if y, e := Put(x, nil, api.Tree{Label: "z"}); e != api.OK || written(y) != "z" {
		t.Errorf("with another one at the root: %v, %d", y, e)
	}
	deep := chain(200000, "x")
	path := make([]int, 199999)
	if part, e := At(deep, path); e != api.OK || part.Label != "x" {
		t.Errorf("deep: %q, %d", part.Label, e)
	}
	if y, e := Put(deep, path, api.Tree{Label: "y"}); e != api.OK || !Equal(y, chain(200000, "y")) || Equal(y, deep) {
		t.Errorf("deep: %d", e)
	}
}

// P17.1: trees of any size, equal or not.
func TestEqual(t *testing.T) {
	for _, x := range [][2]string{{"a", "b"}, {"a(b)", "a"}, {"a(b)", "a(c)"}, {"a(b,c)", "a(b)"}, {"a(b,c)", "a(c,b)"}, {"a(b(c),d)", "a(b,c(d))"}} {
		a, b := readTree(t, x[0]), readTree(t, x[1])
		if Equal(a, b) || Equal(b, a) || !Equal(a, a) || !Equal(b, b) {
			t.Errorf("%s and %s", x[0], x[1])
		}
	}
	if !Equal(api.Tree{Kids: []api.Tree{}}, api.Tree{}) {
		t.Error("nil and empty are the same")
	}
	for s, want := range map[string][2]int{"a": {1, 1}, "a(b)": {2, 2}, "a(b,c(d,e(f)),g)": {7, 4}} {
		if nodes, depth := Size(readTree(t, s)); nodes != want[0] || depth != want[1] {
			t.Errorf("%s: %d, %d", s, nodes, depth)
		}
	}
	if nodes, depth := Size(api.Tree{}); nodes != 1 || depth != 1 {
		t.Errorf("an empty tree: %d, %d", nodes, depth)
	}
	if nodes, depth := Size(chain(300000, "x")); nodes != 300000 || depth != 300000 {
		t.Errorf("deep: %d, %d", nodes, depth)
	}
	if !Equal(chain(300000, "x"), chain(300000, "x")) {
		t.Error("deep trees")
	}
}

// P17.5: the syntax proof of a tree, and what the verifier says of it.
func TestProof(t *testing.T) {
	r := rand.New(rand.NewSource(175))
	for i := range 100 {
		sort := sortsOf[i%3]
		x := random(r, sort, 4)
		l, e := Proof(database(t, logic), x)
		if n, _ := Size(x); e != api.OK || len(l) != n {
			t.Fatalf("%s: %q, %d", written(x), l, e)
		}
		formula, _ := Text(database(t, logic), x)
		db := database(t, logic+"thm $p "+strings.Join(formula, " ")+" $= "+strings.Join(l, " ")+" $.")
		if v, e := verify.Theorem(db, len(db.Frames)-1); e != api.OK || v != (api.Verdict{}) {
			t.Fatalf("%s with the proof %q: %v, %d", written(x), l, v, e)
		}
	}
}

// P17.1: what has no text, and what is no text of a tree.
func TestWriteAndRead(t *testing.T) {
	label := strings.Repeat("x", api.MaxLabel)
	wide := func(n int) api.Tree {
		return api.Tree{Label: label, Kids: slices.Repeat([]api.Tree{{Label: label}}, n-1)}
	}
	for name, x := range map[string]struct {
		t    api.Tree
		want api.Errno
	}{
		"the longest labels":   {wide(4000), api.OK},
		"too many nodes":       {wide(4001), api.ErrSize},
		"100 deep":             {chain(100, "x"), api.OK},
		"101 deep":             {chain(101, "x"), api.ErrDepth},
		"101 deep, no label":   {chain(101, ""), api.ErrDepth},
		"4001 deep":            {chain(4001, ""), api.ErrSize},
		"very deep":            {chain(300000, ""), api.ErrSize},
		"no label":             {chain(3, ""), api.ErrForm},
		"an empty tree":        {api.Tree{}, api.ErrForm},
		"a long label":         {chain(3, label+"x"), api.ErrForm},
		"another sign":         {chain(3, "a+"), api.ErrForm},
		"a byte":               {chain(3, "\xff"), api.ErrForm},
		"all signs":            {chain(3, "aAzZ09-_."), api.OK},
		"a letter of others":   {chain(3, "ä"), api.ErrForm},
		"a wrong one above":    {api.Tree{Label: "(", Kids: []api.Tree{{Label: "x"}}}, api.ErrForm},
		"a work variable":      {chain(1, "&wff.0"), api.ErrForm},
		"one, and a wrong one": {api.Tree{Label: "x", Kids: []api.Tree{{Label: "y"}, {Label: " "}}}, api.ErrForm},
	} {
		s, e := Write(x.t)
		if e != x.want || e == api.OK && s != written(x.t) || e != api.OK && s != "" {
			t.Errorf("%s: %d bytes, %d, want %d", name, len(s), e, x.want)
		}
		if back, e := Read(s); x.want == api.OK && (e != api.OK || !Equal(back, x.t)) {
			t.Errorf("%s: back %d", name, e)
		}
	}
	deep := func(n int) string { return strings.Repeat("a(", n-1) + "a" + strings.Repeat(")", n-1) }
	many := func(n int) string { return "a(" + strings.Repeat("a,", n-2) + "a)" }
	for _, x := range []struct {
		s    string
		want api.Errno
	}{
		{"", api.ErrForm}, {"a()", api.ErrForm}, {"a(", api.ErrForm}, {"a(b", api.ErrForm}, {"a(b,", api.ErrForm}, {"a(b,)", api.ErrForm}, {"a(,b)", api.ErrForm},
		{"a)", api.ErrForm}, {"a(b))", api.ErrForm}, {"a,b", api.ErrForm}, {"a(b)c", api.ErrForm}, {"a(b)(c)", api.ErrForm}, {"a(b),c", api.ErrForm}, {"(a)", api.ErrForm}, {"a(b(c)d)", api.ErrForm},
		{" a", api.ErrForm}, {"a ", api.ErrForm}, {"a(b, c)", api.ErrForm}, {"a\n", api.ErrForm}, {"a(&wff.0)", api.ErrForm}, {label + "x", api.ErrForm}, {"a(" + label + ")", api.OK},
		{deep(100), api.OK}, {deep(101), api.ErrDepth}, {deep(4000), api.ErrDepth}, {deep(4001), api.ErrSize}, {deep(60000), api.ErrSize}, {deep(101) + ")", api.ErrForm}, {deep(60000)[1:], api.ErrForm}, {strings.Repeat("a(", 125000), api.ErrForm},
		{many(4000), api.OK}, {many(4001), api.ErrSize}, {many(4001) + "!", api.ErrForm}, {many(125000), api.ErrSize}, {strings.Repeat("a", 250000), api.ErrForm}, {strings.Repeat("a", 250001), api.ErrLarge}, {"", api.ErrForm},
	} {
		tree, e := Read(x.s)
		if e != x.want || e != api.OK && !Equal(tree, api.Tree{}) {
			t.Errorf("%.40q: %d, want %d", x.s, e, x.want)
		}
		if s, e := Write(tree); x.want == api.OK && (e != api.OK || s != x.s) {
			t.Errorf("%.40q: %.40q, %d", x.s, s, e)
		}
	}
	r := rand.New(rand.NewSource(176))
	taken := 0
	for range 20000 {
		b := make([]byte, 1+r.Intn(8))
		for i := range b {
			b[i] = "ab(),,)"[r.Intn(7)]
		}
		x, e := Read(string(b))
		if e == api.OK {
			taken++
			if s, e := Write(x); e != api.OK || s != string(b) {
				t.Fatalf("%q: %q, %d", b, s, e)
			}
		} else if e != api.ErrForm || !Equal(x, api.Tree{}) {
			t.Fatalf("%q: %v, %d", b, x, e)
		}
	}
	if taken < 500 {
		t.Errorf("only %d texts are taken", taken)
	}
}
