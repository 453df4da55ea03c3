package certify

import (
	"math/rand"
	"slices"
	"strconv"
	"strings"
	"testing"

	"apodixis/api"
	"apodixis/earley"
	"apodixis/grammar"
	"apodixis/table"
)

// grammarOf returns a grammar whose rules are written as their label, their sort and their parts; a part that is a sort is an argument, and the arguments have their order.
func grammarOf(sorts string, rules ...string) grammar.Grammar {
	g := grammar.Grammar{Sorts: strings.Fields(sorts)}
	for _, s := range rules {
		l := strings.Fields(s)
		r := grammar.Rule{Label: l[0], Sort: l[1]}
		args := 0
		for _, p := range l[2:] {
			if slices.Contains(g.Sorts, p) {
				r.Parts = append(r.Parts, grammar.Part{Sort: p, Arg: args})
				args++
			} else {
				r.Parts = append(r.Parts, grammar.Part{Symbol: p})
			}
		}
		g.Rules = append(g.Rules, r)
	}
	return g
}

// random returns a small grammar, often with rules for nothing and with circles.
func random(r *rand.Rand) grammar.Grammar {
	g := grammar.Grammar{Sorts: []string{"u", "s", "t"}[:1+r.Intn(3)]}
	for i := range 1 + r.Intn(5) {
		x := grammar.Rule{Label: "r" + strconv.Itoa(i), Sort: g.Sorts[r.Intn(len(g.Sorts))]}
		var args []int
		for range r.Intn(4) {
			if r.Intn(2) == 0 {
				x.Parts = append(x.Parts, grammar.Part{Symbol: string(rune('a' + r.Intn(2)))})
				continue
			}
			args = append(args, len(x.Parts))
			x.Parts = append(x.Parts, grammar.Part{Sort: g.Sorts[r.Intn(len(g.Sorts))]})
		}
		for arg, i := range r.Perm(len(args)) {
			x.Parts[args[i]].Arg = arg
		}
		g.Rules = append(g.Rules, x)
	}
	return g
}

func logic() grammar.Grammar {
	return grammarOf("wff", "wph wff ph", "wps wff ps", "wn wff -. wff", "wi wff ( wff -> wff )")
}

func doubled() grammar.Grammar { return grammarOf("s", "a s a", "b s s s") }

// unary is unambiguous, but has no table: what stands behind decides on what stands ahead.
func unary() grammar.Grammar { return grammarOf("s", "p s a s a", "q s a") }

func equal(a, b Certificate) bool {
	sameTables := a.Table.Sort == b.Table.Sort && slices.EqualFunc(a.Table.States, b.Table.States, slices.Equal[[]table.Item]) && slices.Equal(a.Table.Edges, b.Table.Edges)
	return a.Kind == b.Kind && a.Sort == b.Sort && sameTables && slices.Equal(a.Text, b.Text) && same(a.A, b.A) && same(a.B, b.B)
}

// isZero reports whether a certificate is empty.
func isZero(c Certificate) bool { return equal(c, Certificate{}) }

// hasTwo reports whether a text has two trees or more.
func hasTwo(g grammar.Grammar, sort string, text []string) bool {
	f, e := earley.Parse(g, sort, text)
	n, many := earley.Count(f)
	return e == api.OK && (n > 1 || many != api.OK)
}

// firstAmbiguous returns the first sentence with two trees.
func firstAmbiguous(g grammar.Grammar, sort string, most int) ([]string, bool) {
	l, _ := grammar.Sentences(g, sort, most)
	for _, text := range l {
		if hasTwo(g, sort, text) {
			return text, true
		}
	}
	return nil, false
}

// P16.1 to P16.4, and P5 of DOC.md: certificates of random grammars.
func TestRandomGrammars(t *testing.T) {
	r := rand.New(rand.NewSource(16))
	kinds := [3]int{}
	for range 1200 {
		g := random(r)
		l, e := All(g, 4)
		if e != api.OK || len(l) != len(g.Sorts) {
			t.Fatalf("%v: %v, %d", g, l, e)
		}
		for i, sort := range g.Sorts {
			c, e := Certify(g, sort, 4)
			if e != api.OK || !equal(c, l[i]) || c.Sort != sort {
				t.Fatalf("%v: %v, %d, among all %v", g, c, e, l[i])
			}
			if e := Check(g, c); e != api.OK {
				t.Fatalf("%v: %v does not hold: %d", g, c, e)
			}
			kinds[c.Kind]++
			checkKind(t, g, c)
			checkText(t, c)
			more, e := Certify(g, sort, 5)
			if _, many := grammar.Sentences(g, sort, 5); many == api.OK && (e != api.OK || c.Kind != Unknown && !equal(c, more)) {
				t.Fatalf("%v: up to 4 %v, and up to 5 %v, %d", g, c, more, e)
			}
		}
	}
	if kinds[Unknown] < 20 || kinds[Unique] < 300 || kinds[Ambiguous] < 300 {
		t.Errorf("kinds: %v", kinds)
	}
}

// checkKind checks what a certificate up to 4 symbols says of the texts.
func checkKind(t *testing.T, g grammar.Grammar, c Certificate) {
	t.Helper()
	text, ok := firstAmbiguous(g, c.Sort, 4)
	_, _, built := table.Build(g, c.Sort)
	if (c.Kind == Unique) != (built == api.OK) || (c.Kind == Ambiguous) != ok || !slices.Equal(c.Text, text) {
		t.Fatalf("%v: %v, but the first text with two trees is %q, %t, and Build %d", g, c, text, ok, built)
	}
	s, a, b, e := Shortest(g, c.Sort, 4)
	if ok != (e == api.OK) || !slices.Equal(s, text) || !same(a, c.A) || !same(b, c.B) || !ok && e != api.ErrNone {
		t.Fatalf("%v: %v, but the shortest is %q, %v, %v, %d", g, c, s, a, b, e)
	}
	if other := (Certificate{Kind: Unique, Sort: c.Sort, Table: c.Table}); c.Kind == Ambiguous && Check(g, other) != ErrProof {
		t.Fatalf("%v: without a table %d", g, Check(g, other))
	}
}

// checkText checks that a certificate is that of its text.
func checkText(t *testing.T, c Certificate) {
	t.Helper()
	s, e := Text(c)
	if e == api.ErrLarge && len(c.Table.States) > 50 {
		return
	}
	back, f := Parse(s)
	if e != api.OK || f != api.OK || !equal(back, c) {
		t.Fatalf("%v has the text %q, %d, and back %v, %d", c, s, e, back, f)
	}
	if again, e := Text(back); again != s || e != api.OK {
		t.Fatalf("%q, and back %q, %d", s, again, e)
	}
}

// P16.1: the document's examples.
func TestExamples(t *testing.T) {
	c, e := Certify(logic(), "wff", 2)
	want, _, _ := table.Build(logic(), "wff")
	if e != api.OK || !equal(c, Certificate{Kind: Unique, Sort: "wff", Table: want}) {
		t.Errorf("%v, %d", c, e)
	}
	for _, x := range []struct {
		g    grammar.Grammar
		text string
	}{{doubled(), "a a a"}, {grammarOf("s", "b s s", "a s a"), "a"}, {grammarOf("s", "a s a", "b s a"), "a"}, {grammarOf("s", "n s", "b s s s", "c s c"), ""}} {
		c, e := Certify(x.g, "s", 4)
		if e != api.OK || c.Kind != Ambiguous || strings.Join(c.Text, " ") != x.text || Check(x.g, c) != api.OK {
			t.Errorf("%v: %v, %d, want %q", x.g, c, e, x.text)
		}
	}
	if c, e := Certify(unary(), "s", 8); e != api.OK || !equal(c, Certificate{Sort: "s"}) {
		t.Errorf("no table, and no text: %v, %d", c, e)
	}
	for most, kind := range map[int]int{0: Unknown, 2: Unknown, 3: Ambiguous, 8: Ambiguous} {
		if c, e := Certify(doubled(), "s", most); e != api.OK || c.Kind != kind {
			t.Errorf("up to %d: %v, %d", most, c, e)
		}
	}
}

// P16.1: the errors of Certify, All and Shortest, in their order.
func TestErrors(t *testing.T) {
	wide := doubled()
	for i := range 45 {
		wide.Rules = append(wide.Rules, grammar.Rule{Label: strconv.Itoa(i), Sort: "s", Parts: []grammar.Part{{Symbol: strconv.Itoa(i)}}})
	}
	for name, x := range map[string]struct {
		g                      grammar.Grammar
		sort                   string
		most                   int
		certify, all, shortest api.Errno
	}{
		"a wrong grammar":        {grammarOf("s s"), "t", 9, grammar.ErrRule, grammar.ErrRule, grammar.ErrRule},
		"a large grammar":        {grammar.Grammar{Sorts: make([]string, 33)}, "t", 9, api.ErrSize, api.ErrSize, api.ErrSize},
		"no such sort":           {doubled(), "t", 8, api.ErrNone, api.OK, api.ErrNone},
		"no such sort, too long": {doubled(), "t", 9, api.ErrNone, api.ErrRange, api.ErrRange},
		"too long":               {doubled(), "s", 9, api.ErrRange, api.ErrRange, api.ErrRange},
		"below 0":                {doubled(), "s", -1, api.ErrRange, api.ErrRange, api.ErrRange},
		"no sorts":               {grammar.Grammar{}, "", 0, api.ErrNone, api.OK, api.ErrNone},
		"no sorts, below 0":      {grammar.Grammar{}, "", -1, api.ErrNone, api.ErrRange, api.ErrRange},
		"no rules":               {grammarOf("s"), "s", 8, api.OK, api.OK, api.ErrNone},
		"none so short":          {doubled(), "s", 2, api.OK, api.OK, api.ErrNone},
		"too many sentences":     {wide, "s", 3, api.OK, api.OK, api.ErrLarge},
	} {
		c, e := Certify(x.g, x.sort, x.most)
		if e != x.certify || e != api.OK && !isZero(c) || e == api.OK && Check(x.g, c) != api.OK {
			t.Errorf("%s: Certify: %v, %d, want %d", name, c, e, x.certify)
		}
		if l, e := All(x.g, x.most); e != x.all || e != api.OK && l != nil || e == api.OK && len(l) != len(x.g.Sorts) {
			t.Errorf("%s: All: %v, %d, want %d", name, l, e, x.all)
		}
		if s, a, b, e := Shortest(x.g, x.sort, x.most); e != x.shortest || e != api.OK && (s != nil || !isEmpty(a) || !isEmpty(b)) {
			t.Errorf("%s: Shortest: %q, %v, %v, %d, want %d", name, s, a, b, e, x.shortest)
		}
		if e := Check(x.g, Certificate{Kind: 7}); x.all != api.OK && x.all != api.ErrRange && e != x.all {
			t.Errorf("%s: Check: %d, want %d", name, e, x.all)
		}
	}
	if c, e := Certify(wide, "s", 3); e != api.OK || !equal(c, Certificate{Sort: "s"}) {
		t.Errorf("too many sentences: %v, %d", c, e)
	}
}

// P16.1 and P16.2: what holds, and what does not.
func TestCheck(t *testing.T) {
	unique, _ := Certify(logic(), "wff", 2)
	ambiguous, _ := Certify(doubled(), "s", 4)
	conflict := table.Table{Sort: "s", States: [][]table.Item{{{Rule: -1}, {Rule: 0}, {Rule: 0, Next: "a"}, {Rule: 1}, {Rule: 1, Next: "a"}}}}
	changed := func(c Certificate, change func(c *Certificate)) Certificate {
		change(&c)
		return c
	}
	leaf := api.Tree{Label: "a"}
	for name, x := range map[string]struct {
		g    grammar.Grammar
		c    Certificate
		want api.Errno
	}{
		"unique":                      {logic(), unique, api.OK},
		"ambiguous":                   {doubled(), ambiguous, api.OK},
		"unknown":                     {doubled(), Certificate{Sort: "s"}, api.OK},
		"ambiguous, exchanged":        {doubled(), changed(ambiguous, func(c *Certificate) { c.A, c.B = c.B, c.A }), api.OK},
		"unknown, no such sort":       {doubled(), Certificate{Sort: "t"}, ErrProof},
		"nothing":                     {doubled(), Certificate{}, ErrProof},
		"unknown with a table":        {logic(), changed(unique, func(c *Certificate) { c.Kind = Unknown }), ErrProof},
		"unknown with a table's sort": {doubled(), Certificate{Sort: "s", Table: table.Table{Sort: "s"}}, ErrProof},
		"unknown with a text":         {doubled(), Certificate{Sort: "s", Text: []string{""}}, ErrProof},
		"unknown with a tree":         {doubled(), Certificate{Sort: "s", B: leaf}, ErrProof},
		"unknown with kids":           {doubled(), Certificate{Sort: "s", A: api.Tree{Kids: []api.Tree{{}}}}, ErrProof},
		"another kind":                {logic(), changed(unique, func(c *Certificate) { c.Kind = 3 }), ErrProof},
		"a kind below 0":              {doubled(), Certificate{Kind: -1, Sort: "s"}, ErrProof},
		"unique for another grammar":  {doubled(), changed(unique, func(c *Certificate) { c.Sort, c.Table.Sort = "s", "s" }), table.ErrTable},
		"unique of another sort":      {logic(), changed(unique, func(c *Certificate) { c.Sort = "class" }), ErrProof},
		"unique of no such sort":      {logic(), changed(unique, func(c *Certificate) { c.Sort, c.Table.Sort = "class", "class" }), table.ErrTable},
		"unique with a text":          {logic(), changed(unique, func(c *Certificate) { c.Text = []string{"ph"} }), ErrProof},
		"unique with a tree":          {logic(), changed(unique, func(c *Certificate) { c.A = leaf }), ErrProof},
		"unique without edges":        {logic(), changed(unique, func(c *Certificate) { c.Table.Edges = nil }), table.ErrTable},
		"unique without a table":      {doubled(), Certificate{Kind: Unique, Sort: "s"}, ErrProof},
		"unique, an empty table":      {doubled(), Certificate{Kind: Unique, Sort: "s", Table: table.Table{Sort: "s"}}, table.ErrTable},
		"unique, a wrong table":       {doubled(), Certificate{Kind: Unique, Sort: "s", Table: conflict}, table.ErrTable},
		"ambiguous with a table":      {doubled(), changed(ambiguous, func(c *Certificate) { c.Table.Sort = "s" }), ErrProof},
		"ambiguous with edges":        {doubled(), changed(ambiguous, func(c *Certificate) { c.Table.Edges = make([]table.Edge, 1) }), ErrProof},
		"ambiguous, one tree twice":   {doubled(), changed(ambiguous, func(c *Certificate) { c.A = c.B }), ErrProof},
		"ambiguous, another text":     {doubled(), changed(ambiguous, func(c *Certificate) { c.Text = []string{"a", "a"} }), ErrProof},
		"ambiguous, another tree":     {doubled(), changed(ambiguous, func(c *Certificate) { c.B = leaf }), ErrProof},
		"ambiguous, no tree":          {doubled(), changed(ambiguous, func(c *Certificate) { c.A = api.Tree{} }), ErrProof},
		"ambiguous, another sort":     {grammarOf("s t", "a s a", "b s s s"), changed(ambiguous, func(c *Certificate) { c.Sort = "t" }), ErrProof},
		"ambiguous, another grammar":  {logic(), ambiguous, ErrProof},
		"ambiguous, no longer":        {grammarOf("s", "a s a", "b s s a"), ambiguous, ErrProof},
	} {
		if e := Check(x.g, x.c); e != x.want {
			t.Errorf("%s: %d, want %d", name, e, x.want)
		}
	}
	full := table.Table{Sort: "s", States: [][]table.Item{
		{{Rule: -1}, {Rule: 0}, {Rule: 1}}, {{Rule: 0, Dot: 1}, {Rule: 1, Dot: 1}}, {{Rule: -1, Dot: 1}},
	}, Edges: []table.Edge{{From: 0, On: "a", To: 1}, {From: 0, On: "s", Sort: true, To: 2}}}
	if e := Check(grammarOf("s", "a s a", "b s a"), Certificate{Kind: Unique, Sort: "s", Table: full}); e != table.ErrConflict {
		t.Errorf("a table with a conflict: %d", e)
	}
}

// deep is a grammar in which a text of n symbols has two trees, whose depth is more than 31 n.
func deep() grammar.Grammar {
	g := grammar.Grammar{}
	for i := range 32 {
		g.Sorts = append(g.Sorts, "s"+strconv.Itoa(i))
	}
	for i := range 31 {
		g.Rules = append(g.Rules, grammar.Rule{Label: "r" + strconv.Itoa(i), Sort: g.Sorts[i], Parts: []grammar.Part{{Sort: g.Sorts[i+1]}}})
	}
	rest := grammarOf("s0 s31", "x s31 s0 a", "y s31 b", "z s31 s0 c", "v s0 b a a a", "w s0 d")
	g.Rules = append(g.Rules, rest.Rules...)
	return g
}

// P16.1 and P16.3: trees of two sizes, of which a certificate has such that are right.
func TestSmallest(t *testing.T) {
	// The only other tree of b a a a has 97 + 32 nodes, one below the other.
	text, a, b, e := Shortest(deep(), "s0", 4)
	if e != api.OK || strings.Join(text, " ") != "b a a a" || same(a, b) {
		t.Errorf("%q, %v, %v, %d", text, a, b, e)
	}
	if c, e := Certify(deep(), "s0", 4); e != api.OK || !equal(c, Certificate{Sort: "s0"}) {
		t.Errorf("two trees, one of which is too deep: %v, %d", c, e)
	}
	// With a circle of 32 sorts the second tree is 33 deep, and with a long way to it not too deep.
	g := deep()
	g.Rules = append(g.Rules, grammarOf("s0 s31", "u s31 s0").Rules...)
	c, e := Certify(g, "s0", 4)
	if e != api.OK || c.Kind != Ambiguous || strings.Join(c.Text, " ") != "b" && strings.Join(c.Text, " ") != "d" || Check(g, c) != api.OK {
		t.Errorf("a circle: %v, %d", c, e)
	}
	// The smallest tree of x x x x is too deep, two larger ones are not.
	g = grammarOf("s n c0 c1", "first s c0", "wider s"+strings.Repeat(" n", 160)+" x x x x", "wide s"+strings.Repeat(" n", 150)+" x x x x", "n n", "c0 c0 c1")
	for i := 1; i < 29; i++ {
		sort, next := "c"+strconv.Itoa(i), "c"+strconv.Itoa(i+1)
		g.Sorts = append(g.Sorts, next)
		g.Rules = append(g.Rules, grammar.Rule{Label: sort, Sort: sort, Parts: []grammar.Part{{Sort: next}}})
	}
	g.Rules = append(g.Rules, grammarOf("c29 c0", "end c29 x", "again c29 c0 x").Rules...)
	c, e = Certify(g, "s", 4)
	labels := []string{c.A.Label, c.B.Label}
	if e != api.OK || strings.Join(c.Text, " ") != "x x x x" || !slices.Equal(labels, []string{"wide", "wider"}) || Check(g, c) != api.OK {
		t.Errorf("a deep tree and two wide ones: %v, %d", c, e)
	}
	g.Rules = slices.Delete(g.Rules, 1, 2) // wider
	_, a, b, e = Shortest(g, "s", 4)
	labels = []string{a.Label, b.Label}
	if e != api.OK || !slices.Contains(labels, "wide") || !slices.Contains(labels, "first") {
		t.Errorf("a deep tree and a wide one: %q, %d", labels, e)
	}
	if c, e := Certify(g, "s", 4); e != api.OK || !equal(c, Certificate{Sort: "s"}) {
		t.Errorf("a deep tree and a wide one: %v, %d", c, e)
	}
}

// nested is a grammar in which nothing has two trees with so many kids each, down to so many levels: more than n to the power of levels nodes.
func nested(n, levels int) grammar.Grammar {
	g := grammar.Grammar{}
	for i := range levels {
		sort, next := "s"+strconv.Itoa(i), "s"+strconv.Itoa(i+1)
		g.Sorts = append(g.Sorts, sort)
		r := grammar.Rule{Label: "r" + strconv.Itoa(i), Sort: sort}
		for arg := range n {
			r.Parts = append(r.Parts, grammar.Part{Sort: next, Arg: arg})
		}
		g.Rules = append(g.Rules, r)
	}
	last := "s" + strconv.Itoa(levels)
	g.Sorts = append(g.Sorts, last)
	g.Rules = append(g.Rules, grammar.Rule{Label: "one", Sort: last}, grammar.Rule{Label: "two", Sort: last})
	return g
}

// count returns the number of nodes of a tree.
func count(t api.Tree) int {
	n := 1
	for _, k := range t.Kids {
		n += count(k)
	}
	return n
}

// P16.3: of large trees that are not deep and small ones that are, a certificate has the small ones.
func TestLargeAndDeep(t *testing.T) {
	large := []string{"l l" + strings.Repeat(" m", 64), "k m" + strings.Repeat(" n", 64), "n n"} // 4161 nodes
	// Each of the sorts below s has a large tree first, and a small one later.
	g := grammarOf("s l m n", append(large, "small s")...)
	g.Rules = append(g.Rules, grammar.Rule{Label: "deep", Sort: "s", Parts: []grammar.Part{{Sort: "c0"}}})
	for i := range 28 {
		sort, next := "c"+strconv.Itoa(i), "c"+strconv.Itoa(i+1)
		g.Sorts = append(g.Sorts, sort)
		down := grammar.Rule{Label: "down" + sort, Sort: sort, Parts: []grammar.Part{{Sort: next}}}
		if i == 27 {
			down.Parts = nil
		}
		g.Rules = append(g.Rules, down, grammar.Rule{Label: "large" + sort, Sort: sort, Parts: []grammar.Part{{Sort: "l"}}})
	}
	if c, e := Certify(g, "s", 0); e != api.OK || c.Kind != Ambiguous || count(c.A) != 1 || count(c.B) != 29 {
		t.Errorf("a way down: the kind %d, %d and %d nodes, %d", c.Kind, count(c.A), count(c.B), e)
	}
	// The second tree of b is smaller than that of a.
	g = grammarOf("s a b l m n", append(large, "top s a b", "a1 a", "a2 a l", "b1 b", "b2 b n n n n")...)
	if c, e := Certify(g, "s", 0); e != api.OK || c.Kind != Ambiguous || count(c.A) != 3 || count(c.B) != 7 {
		t.Errorf("two kids: the kind %d, %d and %d nodes, %d", c.Kind, count(c.A), count(c.B), e)
	}
}

// P16.3: the smallest tree of a text is one node deeper than a certificate allows, or just as deep.
func TestDeepest(t *testing.T) {
	for _, last := range []int{23, 24} {
		n := strings.Repeat(" n", 150)
		g := grammarOf("s n", "wide s"+n+" x x x x", "wider s"+n+n[:20]+" x x x x", "n n")
		g.Rules = append(g.Rules, grammar.Rule{Label: "first", Sort: "s", Parts: []grammar.Part{{Sort: "c0"}}})
		for i := range last + 1 {
			sort, next := "c"+strconv.Itoa(i), "c"+strconv.Itoa(i+1)
			g.Sorts = append(g.Sorts, sort)
			if i < last {
				g.Rules = append(g.Rules, grammar.Rule{Label: sort, Sort: sort, Parts: []grammar.Part{{Sort: next}}})
			}
		}
		sort := "c" + strconv.Itoa(last)
		x := grammar.Part{Symbol: "x"}
		g.Rules = append(g.Rules, grammar.Rule{Label: "end", Sort: sort, Parts: []grammar.Part{x}}, grammar.Rule{Label: "again", Sort: sort, Parts: []grammar.Part{{Sort: "c0"}, x}})
		c, e := Certify(g, "s", 4)
		if e != api.OK || c.Kind != Ambiguous || strings.Join(c.Text, " ") != "x x x x" || Check(g, c) != api.OK {
			t.Errorf("%d sorts: %v, %d", last, c, e)
		}
		if isDeep := last == 24; isDeep != (c.A.Label == "wide") || isDeep != (c.B.Label == "wider") {
			t.Errorf("%d sorts: %s and %s", last, c.A.Label, c.B.Label)
		}
	}
}

// P16.1 and P16.3: trees of any size are two trees of a text, but in a certificate only such with at most MaxNodes nodes.
func TestShortestOfLargeTrees(t *testing.T) {
	for _, x := range []struct{ n, levels, nodes, kind int }{
		{1, 1, 2, Ambiguous}, {62, 2, 3907, Ambiguous}, {63, 2, 4033, Unknown}, {64, 2, 4161, Unknown}, {200, 2, 40201, Unknown}, {200, 1, 201, Ambiguous}, {15, 3, 3616, Ambiguous}, {70, 3, 347971, Unknown},
	} {
		g := nested(x.n, x.levels)
		text, a, b, e := Shortest(g, "s0", 0)
		if e != api.OK || len(text) > 0 || count(a) != x.nodes || count(b) != x.nodes || same(a, b) {
			t.Errorf("%d by %d: %q, %d and %d nodes, %d", x.n, x.levels, text, count(a), count(b), e)
		}
		c, e := Certify(g, "s0", 0)
		if e != api.OK || c.Kind != x.kind || Check(g, c) != api.OK || x.kind == Unknown && !equal(c, Certificate{Sort: "s0"}) {
			t.Errorf("%d by %d: the kind %d, %d", x.n, x.levels, c.Kind, e)
		}
	}
	// Of a small tree and a large one: MaxNodes is reached exactly, and passed by one.
	for n, kind := range map[int]int{19: Ambiguous, 20: Unknown} {
		large := grammarOf("s n m", "p s", "q s"+strings.Repeat(" n", 20)+strings.Repeat(" m", n), "n n"+strings.Repeat(" m", 198), "m m")
		_, a, b, e := Shortest(large, "s", 2)
		if e != api.OK || count(a) != 1 || count(b) != 3981+n || same(a, b) {
			t.Errorf("%d leaves: %d and %d nodes, %d", n, count(a), count(b), e)
		}
		if c, e := Certify(large, "s", 2); e != api.OK || c.Kind != kind {
			t.Errorf("%d leaves: the kind %d, %d", n, c.Kind, e)
		}
	}
	// Both trees have just as many nodes as a certificate allows.
	both := grammarOf("s n m", "p s"+strings.Repeat(" n", 20)+strings.Repeat(" m", 19), "q s"+strings.Repeat(" n", 20)+strings.Repeat(" m", 19), "n n"+strings.Repeat(" m", 198), "m m")
	if c, e := Certify(both, "s", 2); e != api.OK || c.Kind != Ambiguous || count(c.A) != api.MaxNodes || count(c.B) != api.MaxNodes {
		t.Errorf("%d and %d nodes: the kind %d, %d", count(c.A), count(c.B), c.Kind, e)
	}
	// More than 2^31 - 1 bytes, also where the numbers would overflow.
	for _, levels := range []int{4, 8, 9, 31} {
		g := nested(200, levels)
		if text, a, b, e := Shortest(g, "s0", 0); e != api.ErrLarge || text != nil || !isEmpty(a) || !isEmpty(b) {
			t.Errorf("%d levels: %q, %d and %d nodes, %d", levels, text, count(a), count(b), e)
		}
		if c, e := Certify(g, "s0", 0); e != api.OK || !equal(c, Certificate{Sort: "s0"}) {
			t.Errorf("%d levels: the kind %d, %d", levels, c.Kind, e)
		}
	}
}
