package table

import (
	"slices"
	"strconv"
	"strings"
	"testing"

	"apodixis/api"
	"apodixis/grammar"
)

// logic is the grammar of the document's example.
func logic() grammar.Grammar {
	return grammarOf("wff", "wph wff ph", "wps wff ps", "wn wff -. wff", "wi wff ( wff -> wff )")
}

func built(t *testing.T, g grammar.Grammar, sort string) Table {
	t.Helper()
	x, _, e := Build(g, sort)
	if e != api.OK {
		t.Fatalf("the table of %v: %d", g, e)
	}
	return x
}

// P15.1: the document's examples.
func TestExamples(t *testing.T) {
	x, c, e := Build(grammarOf("s", "a s a", "b s s s"), "s")
	if e != ErrConflict || !sameTable(x, Table{}) || !sameConflict(c, Conflict{[]string{"s", "s"}, "a", Item{0, 0, ""}, Item{1, 2, "a"}}) {
		t.Errorf("%v, %v, %d", x, c, e)
	}
	g := logic()
	x = built(t, g, "wff")
	if e := Check(g, x); e != api.OK {
		t.Errorf("%d", e)
	}
	small := built(t, grammarOf("s t", "a s x", "b t s"), "s")
	want := Table{"s", [][]Item{{{-1, 0, ""}, {0, 0, ""}}, {{0, 1, ""}}, {{-1, 1, ""}}}, []Edge{{0, "x", false, 1}, {0, "s", true, 2}}}
	if !sameTable(small, want) {
		t.Errorf("%v", small)
	}
	if x := built(t, grammarOf("s"), "s"); !sameTable(x, Table{"s", [][]Item{{{-1, 0, ""}}, {{-1, 1, ""}}}, []Edge{{0, "s", true, 1}}}) {
		t.Errorf("without rules: %v", x)
	}
}

// P15.1: the first two items of a conflict, of which one is complete.
func TestConflicts(t *testing.T) {
	for _, x := range []struct {
		g    grammar.Grammar
		want Conflict
	}{
		{grammarOf("s t", "r0 s a b", "r1 s a c", "r2 s t b", "r3 t a"), Conflict{[]string{"a"}, "b", Item{0, 1, ""}, Item{3, 1, "b"}}},
		{grammarOf("s t", "r3 t a", "r0 s a b", "r1 s a c", "r2 s t b"), Conflict{[]string{"a"}, "b", Item{0, 1, "b"}, Item{1, 1, ""}}},
		{grammarOf("s t u", "r0 s a b", "r1 s a b c", "r2 t a", "r3 u a", "r4 s t b", "r5 s u b"), Conflict{[]string{"a"}, "b", Item{0, 1, ""}, Item{2, 1, "b"}}},
		{grammarOf("s t", "r0 s", "r1 s t", "r2 t"), Conflict{nil, "", Item{0, 0, ""}, Item{2, 0, ""}}},
		{grammarOf("s", "r0 s s", "r1 s b"), Conflict{[]string{"s"}, "", Item{-1, 1, ""}, Item{0, 1, ""}}},
		{grammarOf("s t", "r0 s t b", "r1 t", "r2 s b"), Conflict{nil, "b", Item{1, 0, "b"}, Item{2, 0, ""}}},
		{grammarOf("s t", "r0 s z t", "r1 t x", "r2 t x", "r3 t b", "r4 t b"), Conflict{[]string{"z", "b"}, "", Item{3, 1, ""}, Item{4, 1, ""}}},
	} {
		got, c, e := Build(x.g, "s")
		if e != ErrConflict || !sameConflict(c, x.want) || !sameTable(got, Table{}) {
			t.Errorf("%v: %v, %v, %d, want %v", x.g, got, c, e, x.want)
		}
	}
}

// P15.1: the errors of grammars and sorts, ahead of others.
func TestErrors(t *testing.T) {
	large := grammar.Grammar{Sorts: make([]string, 33)}
	for want, g := range map[api.Errno]grammar.Grammar{grammar.ErrRule: grammarOf("s s"), api.ErrSize: large} {
		if l, e := Closure(g, make([]Item, 3000)); e != want || l != nil {
			t.Errorf("Closure: %v, %d", l, e)
		}
		if x, c, e := Build(g, "t"); e != want || !sameTable(x, Table{}) || !sameConflict(c, Conflict{}) {
			t.Errorf("Build: %v, %v, %d", x, c, e)
		}
		if e := Check(g, Table{}); e != want {
			t.Errorf("Check: %d", e)
		}
		if x, at, e := Parse(g, Table{}, make([]string, 300)); e != want || at != 0 || !sameTree(x, api.Tree{}) {
			t.Errorf("Parse: %v, %d, %d", x, at, e)
		}
		if l, e := Expected(g, Table{}, make([]string, 300)); e != want || l != nil {
			t.Errorf("Expected: %v, %d", l, e)
		}
	}
	for _, sort := range []string{"", "ph", "|-"} {
		if x, c, e := Build(logic(), sort); e != api.ErrNone || !sameTable(x, Table{}) || !sameConflict(c, Conflict{}) {
			t.Errorf("Build of %q: %v, %v, %d", sort, x, c, e)
		}
	}
	if e := Check(logic(), Table{}); e != ErrTable {
		t.Errorf("an empty table: %d", e)
	}
}

// P15.1: the errors of Closure, in their order.
func TestClosure(t *testing.T) {
	g := logic()
	long := strings.Repeat("x", api.MaxLabel)
	item := func(n int) []Item {
		var l []Item
		for i := range n {
			l = append(l, Item{0, 1, strconv.Itoa(i)})
		}
		return l
	}
	for name, x := range map[string]struct {
		l    []Item
		want int
		e    api.Errno
	}{
		"nothing":               {nil, 0, api.OK},
		"one that is complete":  {[]Item{{0, 1, ""}}, 1, api.OK},
		"one twice":             {[]Item{{0, 1, ""}, {0, 1, ""}}, 1, api.OK},
		"a long Next":           {[]Item{{0, 0, long}}, 1, api.OK},
		"a longer Next":         {[]Item{{0, 0, long + "x"}}, 0, ErrTable},
		"a Next of the sort":    {[]Item{{2, 1, "wff"}}, 5, api.OK},
		"the whole":             {[]Item{{-1, 0, ""}}, 0, ErrTable},
		"a rule below":          {[]Item{{-2, 0, ""}}, 0, ErrTable},
		"a rule that is none":   {[]Item{{4, 0, ""}}, 0, ErrTable},
		"a dot below 0":         {[]Item{{0, -1, ""}}, 0, ErrTable},
		"a dot that is too far": {[]Item{{0, 2, ""}}, 0, ErrTable},
		"the last place":        {[]Item{{3, 5, ""}}, 1, api.OK},
		"2000":                  {item(2000), 2000, api.OK},
		"2001":                  {item(2001), 0, api.ErrSize},
		"2001 and a wrong one":  {append(item(2001), Item{-1, 0, ""}), 0, ErrTable},
		"2000, and with rules":  {append(item(1999), Item{2, 1, ""}), 0, api.ErrLarge},
		"1995, and with rules":  {append(item(1995), Item{2, 1, ""}), 2000, api.OK},
		"1996, and with rules":  {append(item(1996), Item{2, 1, ""}), 0, api.ErrLarge},
	} {
		l, e := Closure(g, x.l)
		if len(l) != x.want || e != x.e {
			t.Errorf("%s: %v, %d, want %d, %d", name, l, e, x.want, x.e)
		}
	}
	// First of an own sort without expressions is nothing, and one that may be empty lets the Next through.
	g = grammarOf("s t u v", "r0 s t u v y", "r1 t x", "r2 u", "r3 u z", "r4 v v")
	got, e := Closure(g, []Item{{0, 0, "n"}})
	if e != api.OK || !slices.Equal(got, []Item{{0, 0, "n"}, {1, 0, "z"}}) {
		t.Errorf("%v, %d", got, e)
	}
	g = grammarOf("s t u", "r0 s t u u", "r1 t x", "r2 u", "r3 u z")
	got, e = Closure(g, []Item{{0, 0, "n"}})
	if e != api.OK || !slices.Equal(got, []Item{{0, 0, "n"}, {1, 0, "n"}, {1, 0, "z"}}) {
		t.Errorf("%v, %d", got, e)
	}
}

// row is a grammar with one sentence of n symbols in two rules, whose table has n + 4 states.
func row(n int) grammar.Grammar {
	g := grammar.Grammar{Sorts: []string{"s", "t"}, Rules: []grammar.Rule{{Label: "s", Sort: "s"}, {Label: "t", Sort: "t"}}}
	for i := range n {
		r := &g.Rules[i/api.MaxSymbols]
		r.Parts = append(r.Parts, grammar.Part{Symbol: "x" + strconv.Itoa(i)})
	}
	g.Rules[0].Parts = slices.Insert(g.Rules[0].Parts, 1, grammar.Part{Sort: "t"})
	g.Rules[0].Parts, g.Rules[1].Parts = g.Rules[0].Parts[:api.MaxSymbols], append(g.Rules[1].Parts, g.Rules[0].Parts[api.MaxSymbols:]...)
	return g
}

// P15.1: tables at their limits.
func TestBuildLimits(t *testing.T) {
	for n, want := range map[int]int{297: 300, 298: 0, 250: 253} {
		x, c, e := Build(row(n), "s")
		if len(x.States) != want || (e == api.OK) != (want > 0) || e != api.OK && e != api.ErrLarge || !sameConflict(c, Conflict{}) {
			t.Errorf("%d symbols: %d states, %d, want %d", n, len(x.States), e, want)
		}
	}
	// A conflict in the first state, and too many states.
	g := row(298)
	g.Rules = append(g.Rules, grammarOf("s t", "r s u", "q s u").Rules...)
	if _, c, e := Build(g, "s"); e != api.ErrLarge || !sameConflict(c, Conflict{}) {
		t.Errorf("a conflict, and too many states: %v, %d", c, e)
	}
	// With n symbols that follow there are n items of each of m rules.
	items := func(n, m, more int) grammar.Grammar {
		g := grammarOf("s t u", "r0 s t u")
		for i := range n {
			g.Rules = append(g.Rules, grammar.Rule{Label: "u" + strconv.Itoa(i), Sort: "u", Parts: []grammar.Part{{Symbol: strconv.Itoa(i)}}})
		}
		for i := range m {
			g.Rules = append(g.Rules, grammar.Rule{Label: "t" + strconv.Itoa(i), Sort: "t", Parts: []grammar.Part{{Symbol: "t" + strconv.Itoa(i)}}})
		}
		for i := range more {
			g.Rules = append(g.Rules, grammar.Rule{Label: "s" + strconv.Itoa(i), Sort: "s", Parts: []grammar.Part{{Symbol: "x" + strconv.Itoa(i)}}})
		}
		return g
	}
	for _, x := range []struct {
		more int
		want api.Errno
	}{{18, api.OK}, {19, api.ErrLarge}} { // the whole, s with r0, and 180 by 11
		y, _, e := Build(items(180, 11, x.more), "s")
		if e != x.want || e == api.OK && len(y.States[0]) != 2000 {
			t.Errorf("%d states, %d, want %d", len(y.States), e, x.want)
		}
	}
	// Each of n + 1 states has an edge for each of n + m symbols, and one for the sort; longer adds one further edge.
	edges := func(n, m int, longer bool) grammar.Grammar {
		g := grammarOf("s")
		for i := range n + m {
			g.Rules = append(g.Rules, grammar.Rule{Label: strconv.Itoa(i), Sort: "s", Parts: []grammar.Part{{Symbol: "a" + strconv.Itoa(i)}}})
			if i < n {
				g.Rules[i].Parts = append(g.Rules[i].Parts, grammar.Part{Sort: "s"})
			}
		}
		if longer {
			g.Rules[n].Parts = append(g.Rules[n].Parts, grammar.Part{Symbol: "z"})
		}
		return g
	}
	for _, x := range []struct {
		n, m   int
		longer bool
		want   int
	}{{139, 1, false, 19740}, {124, 35, false, 20000}, {124, 35, true, 0}, {140, 1, false, 0}, {147, 1, false, 0}} {
		g := edges(x.n, x.m, x.longer)
		y, _, e := Build(g, "s")
		if len(y.Edges) != x.want || (e == api.OK) != (x.want > 0) || e != api.OK && e != api.ErrLarge {
			t.Errorf("%d and %d rules: %d edges, %d, want %d", x.n, x.m, len(y.Edges), e, x.want)
		}
		if e == api.OK && Check(g, y) != api.OK {
			t.Errorf("%d and %d rules: Check: %d", x.n, x.m, Check(g, y))
		}
	}
}

// P15.1: tables that Build does not return, but Check takes, and the limits of these.
func TestCheckLimits(t *testing.T) {
	g := logic()
	x := built(t, g, "wff")
	complete := []Item{{0, 1, ""}}
	grown := func(states int) Table {
		y := copied(x)
		for len(y.States) < states {
			y.States = append(y.States, complete)
		}
		return y
	}
	items := func(n int) Table {
		y := copied(x)
		var l []Item
		for i := range n {
			l = append(l, Item{0, 1, strconv.Itoa(i)})
		}
		slices.SortFunc(l, compare)
		y.States = append(y.States, l)
		return y
	}
	twice := copied(x)
	twice.Edges = slices.Repeat(twice.Edges, 20001/len(x.Edges)+1)
	edge := func(e Edge) Table { return Table{"wff", x.States, append(slices.Clone(x.Edges), e)} }
	for name, y := range map[string]struct {
		t    Table
		want api.Errno
	}{
		"itself":          {x, api.OK},
		"a further edge":  {edge(Edge{0, "x", false, 0}), ErrTable},
		"a further sort":  {edge(Edge{1, "wff", true, 0}), ErrTable},
		"from nowhere":    {edge(Edge{-1, "ph", false, 0}), ErrTable},
		"from beyond":     {edge(Edge{len(x.States), "ph", false, 0}), ErrTable},
		"an empty symbol": {edge(Edge{0, "", false, 0}), ErrTable},
		"1000 states":     {grown(1000), api.OK},
		"1001 states":     {grown(1001), ErrTable},
		"2000 items":      {items(2000), api.OK},
		"2001 items":      {items(2001), ErrTable},
		"no items":        {Table{"wff", append(slices.Clone(x.States), nil), x.Edges}, ErrTable},
		"too many edges":  {twice, ErrTable},
		"no states":       {Table{Sort: "wff"}, ErrTable},
		"another sort":    {Table{"class", x.States, x.Edges}, ErrTable},
		"without edges":   {Table{"wff", x.States, nil}, ErrTable},
		"a longer Next":   {Table{"wff", append(slices.Clone(x.States), []Item{{0, 1, strings.Repeat("x", 61)}}), x.Edges}, ErrTable},
		"a long Next":     {Table{"wff", append(slices.Clone(x.States), []Item{{0, 1, strings.Repeat("x", 60)}}), x.Edges}, api.OK},
		"a whole at end":  {Table{"wff", append(slices.Clone(x.States), []Item{{-1, 1, "ph"}}), x.Edges}, api.OK},
		"items unordered": {Table{"wff", append(slices.Clone(x.States), []Item{{0, 1, "b"}, {0, 1, "a"}}), x.Edges}, ErrTable},
		"items twice":     {Table{"wff", append(slices.Clone(x.States), []Item{{0, 1, "b"}, {0, 1, "b"}}), x.Edges}, ErrTable},
		"a conflict":      {Table{"wff", append(slices.Clone(x.States), []Item{{0, 1, "b"}, {1, 1, "b"}}), x.Edges}, ErrConflict},
	} {
		if e := Check(g, y.t); e != y.want {
			t.Errorf("%s: %d, want %d", name, e, y.want)
		}
	}
	// A state that is its own closure, but has an item more than an edge leads to.
	g = grammarOf("s n", "a s x", "n n")
	x = built(t, g, "s")
	x.States[1] = append(x.States[1], Item{1, 0, "z"})
	if l, e := Closure(g, x.States[1]); e != api.OK || !slices.Equal(l, x.States[1]) {
		t.Fatalf("%v, %d", l, e)
	}
	if e := Check(g, x); e != ErrTable {
		t.Errorf("an item more: %d", e)
	}
}

// P15.1: Parse and Expected, with their errors in order.
func TestParse(t *testing.T) {
	g := logic()
	x := built(t, g, "wff")
	leaf := func(label string) api.Tree { return api.Tree{Label: label} }
	for _, y := range []struct {
		text     string
		want     api.Tree
		at       int
		e        api.Errno
		expected string
	}{
		{"ph", leaf("wph"), 0, api.OK, "|"},
		{"( ph -> -. ps )", api.Tree{Label: "wi", Kids: []api.Tree{leaf("wph"), {Label: "wn", Kids: []api.Tree{leaf("wps")}}}}, 0, api.OK, "|"},
		{"", api.Tree{}, 0, ErrParse, "(|-.|ph|ps"},
		{"(", api.Tree{}, 1, ErrParse, "(|-.|ph|ps"},
		{"( ph", api.Tree{}, 2, ErrParse, "->"},
		{"( ph ph", api.Tree{}, 2, ErrParse, ""},
		{"ph ph", api.Tree{}, 1, ErrParse, ""},
		{"wff", api.Tree{}, 0, ErrParse, ""},
		{"( ph -> -. ps", api.Tree{}, 5, ErrParse, ")"},
	} {
		text := strings.Fields(y.text)
		got, at, e := Parse(g, x, text)
		if e != y.e || at != y.at || !sameTree(got, y.want) {
			t.Errorf("%q: %v, %d, %d, want %v, %d, %d", y.text, got, at, e, y.want, y.at, y.e)
		}
		l, e := Expected(g, x, text)
		want := strings.Split(y.expected, "|")
		if y.expected == "|" {
			want = []string{""}
		}
		if y.expected == "" && (e != ErrParse || l != nil) || y.expected != "" && (e != api.OK || !slices.Equal(l, want)) {
			t.Errorf("expected behind %q: %q, %d, want %q", y.text, l, e, y.expected)
		}
	}
	for _, text := range [][]string{{"ph", ""}, {"ph", "", "ph"}, {"ph", "ph", ""}} {
		if got, at, e := Parse(g, x, text); e != ErrParse || at != 1 || !sameTree(got, api.Tree{}) {
			t.Errorf("%q: %v, %d, %d", text, got, at, e)
		}
		if l, e := Expected(g, x, text); e != ErrParse || l != nil {
			t.Errorf("expected behind %q: %q, %d", text, l, e)
		}
	}
	// Args stand in their own order.
	g.Rules[3].Parts[1].Arg, g.Rules[3].Parts[3].Arg = 1, 0
	if got, _, e := Parse(g, x, strings.Fields("( ph -> ps )")); e != api.OK || !sameTree(got, api.Tree{Label: "wi", Kids: []api.Tree{leaf("wps"), leaf("wph")}}) {
		t.Errorf("%v, %d", got, e)
	}
}

// P15.1: the limits of Parse.
func TestParseLimits(t *testing.T) {
	g := grammarOf("s", "n s - s", "x s x", "y s y")
	x := built(t, g, "s")
	text := func(n int, last string) []string { return append(slices.Repeat([]string{"-"}, n-1), last) }
	for _, y := range []struct {
		text     []string
		at       int
		want     api.Errno
		expected api.Errno
	}{
		{text(100, "x"), 0, api.OK, api.OK}, {text(101, "x"), 0, api.ErrDepth, api.OK}, {text(200, "x"), 0, api.ErrDepth, api.OK},
		{text(201, "x"), 0, api.ErrSize, api.ErrSize}, {text(200, "z"), 199, ErrParse, ErrParse}, {append(text(150, "x"), "x"), 150, ErrParse, ErrParse},
	} {
		if got, at, e := Parse(g, x, y.text); e != y.want || at != y.at || (got.Label == "") != (e != api.OK) {
			t.Errorf("%d symbols: %q, %d, %d, want %d, %d", len(y.text), got.Label, at, e, y.at, y.want)
		}
		if l, e := Expected(g, x, y.text); e != y.expected || e == api.OK && !slices.Equal(l, []string{""}) {
			t.Errorf("%d symbols: expected %q, %d, want %d", len(y.text), l, e, y.expected)
		}
	}
	// A tree of a has a node, 27 of b, 27 by 27 of d, and 26 of c for each of these, all for nothing; e has 10 of d, and of c as many as there are more.
	steps := func(more int) grammar.Grammar {
		return grammarOf("s a b c d e", "a a"+strings.Repeat(" b", 27), "b b"+strings.Repeat(" d", 27), "d d"+strings.Repeat(" c", 26), "c c", "s s a x e", "e e y"+strings.Repeat(" d", 10)+strings.Repeat(" c", more))
	}
	count := 1 + 27 + 27*27 + 27*27*26 + 10*27 + 2 + 2 // without further ones of c
	for _, more := range []int{20000 - count, 20000 - count + 1} {
		g := steps(more)
		x := built(t, g, "s")
		want := api.OK
		if count+more > 20000 {
			want = api.ErrSteps
		}
		if got, at, e := Parse(g, x, []string{"x", "y"}); e != want || at != 0 || (got.Label == "s") != (e == api.OK) {
			t.Errorf("%d steps: %q, %d, %d, want %d", count+more, got.Label, at, e, want)
		}
		if l, e := Expected(g, x, []string{"x", "y"}); e != api.OK || !slices.Equal(l, []string{""}) {
			t.Errorf("%d steps: expected %q, %d", count+more, l, e)
		}
	}
	g = grammarOf("s a b c d", "a a"+strings.Repeat(" b", 28), "b b"+strings.Repeat(" d", 27), "d d"+strings.Repeat(" c", 26), "c c", "s s a x")
	x = built(t, g, "s")
	if l, e := Expected(g, x, []string{"x"}); e != api.ErrSteps || l != nil {
		t.Errorf("too many steps: expected %q, %d", l, e)
	}
	if got, at, e := Parse(g, x, []string{"x", "x"}); e != api.ErrSteps || at != 0 || !sameTree(got, api.Tree{}) {
		t.Errorf("too many steps ahead of an error: %v, %d, %d", got, at, e)
	}
}
