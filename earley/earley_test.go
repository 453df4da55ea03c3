package earley

import (
	"slices"
	"strconv"
	"strings"
	"testing"

	"apodixis/api"
	"apodixis/grammar"
)

// doubled is the grammar of the document's example.
func doubled() grammar.Grammar { return grammarOf("s", "a s a", "b s s s") }

func symbols(s string, n int) []string { return slices.Repeat([]string{s}, n) }

// tree returns the tree that "b(a,b(a,a))" writes.
func tree(s string) api.Tree {
	t, _ := readTree(s)
	return t
}

func readTree(s string) (api.Tree, string) {
	n := strings.IndexAny(s+")", "(,)")
	t, s := api.Tree{Label: s[:n]}, s[n:]
	if !strings.HasPrefix(s, "(") {
		return t, s
	}
	for s[0] != ')' {
		k, rest := readTree(s[1:])
		t.Kids, s = append(t.Kids, k), rest
	}
	return t, s[1:]
}

// P14.1: the document's examples.
func TestExamples(t *testing.T) {
	g := doubled()
	f, e := Parse(g, "s", symbols("a", 3))
	want := Forest{[]Node{
		{"s", 0, 3, []Way{{1, []int{1, 2}}, {1, []int{3, 4}}}},
		{"s", 0, 1, []Way{{0, nil}}},
		{"s", 1, 3, []Way{{1, []int{5, 4}}}},
		{"s", 0, 2, []Way{{1, []int{1, 5}}}},
		{"s", 2, 3, []Way{{0, nil}}},
		{"s", 1, 2, []Way{{0, nil}}},
	}}
	if e != api.OK || !sameForest(f, want) {
		t.Errorf("%v, %d", f, e)
	}
	l, e := Trees(g, f, 5)
	if e != api.OK || !slices.EqualFunc(l, []api.Tree{tree("b(a,b(a,a))"), tree("b(b(a,a),a)")}, sameTree) {
		t.Errorf("%v, %d", l, e)
	}
	f, e = Parse(grammarOf("s", "b s s", "a s a"), "s", []string{"a"})
	if e != api.OK || !sameForest(f, Forest{[]Node{{"s", 0, 1, []Way{{0, []int{0}}, {1, nil}}}}}) {
		t.Errorf("%v, %d", f, e)
	}
	if n, e := Count(f); n != 0 || e != ErrInfinite {
		t.Errorf("%d, %d", n, e)
	}
	if l, e := Trees(g, f, 300); l != nil || e != ErrInfinite {
		t.Errorf("%v, %d", l, e)
	}
}

// P14.1: the errors that all functions with a grammar have, ahead of their own.
func TestErrors(t *testing.T) {
	wrong := grammarOf("s s")
	large := grammar.Grammar{Sorts: symbols("s", 33)}
	for want, g := range map[api.Errno]grammar.Grammar{grammar.ErrRule: wrong, api.ErrSize: large} {
		if f, e := Parse(g, "t", symbols("a", 300)); e != want || f.Nodes != nil {
			t.Errorf("Parse: %v, %d", f, e)
		}
		if e := Check(g, nil, Forest{}); e != want {
			t.Errorf("Check: %d", e)
		}
		if l, e := Trees(g, Forest{}, -1); e != want || l != nil {
			t.Errorf("Trees: %v, %d", l, e)
		}
		if n, l, e := Viable(g, "t", symbols("a", 300)); n != 0 || l != nil || e != want {
			t.Errorf("Viable: %d, %v, %d", n, l, e)
		}
		if l, e := Text(g, chain("x", 5000)); e != want || l != nil {
			t.Errorf("Text: %v, %d", l, e)
		}
		if s, e := Sort(g, chain("x", 5000)); e != want || s != "" {
			t.Errorf("Sort: %q, %d", s, e)
		}
	}
	for _, x := range []struct {
		sort string
		n    int
		want api.Errno
	}{{"t", 201, api.ErrNone}, {"", 0, api.ErrNone}, {"s", 201, api.ErrSize}, {"s", 200, ErrParse}, {"s", 0, ErrParse}} {
		if f, e := Parse(grammarOf("s"), x.sort, symbols("a", x.n)); e != x.want || f.Nodes != nil {
			t.Errorf("Parse %q, %d: %v, %d, want %d", x.sort, x.n, f, e, x.want)
		}
		want := x.want
		if want == ErrParse {
			want = api.OK
		}
		if n, l, e := Viable(grammarOf("s"), x.sort, symbols("a", x.n)); n != 0 || l != nil || e != want {
			t.Errorf("Viable %q, %d: %d, %v, %d, want %d", x.sort, x.n, n, l, e, want)
		}
	}
	if f, e := Parse(doubled(), "s", []string{"a", ""}); e != ErrParse || f.Nodes != nil {
		t.Errorf("an empty symbol: %v, %d", f, e)
	}
}

// P14.1: forests at their limits.
func TestParseLimits(t *testing.T) {
	// There is one expression from the beginning to each place, and one way to build it.
	single := grammarOf("s", "a s a", "b s s a")
	if f, e := Parse(single, "s", symbols("a", 200)); e != api.OK || len(f.Nodes) != 200 {
		t.Errorf("%d nodes, %d", len(f.Nodes), e)
	}
	// One way for each symbol, and one for any three places.
	ways := func(n int) int { return n + (n+1)*n*(n-1)/6 }
	for n, want := range map[int]api.Errno{61: api.OK, 62: api.OK, 63: api.ErrLarge, 88: api.ErrLarge, 200: api.ErrLarge} {
		f, e := Parse(doubled(), "s", symbols("a", n))
		count := 0
		for _, x := range f.Nodes {
			count += len(x.Ways)
		}
		if e != want || e == api.OK && (count != ways(n) || len(f.Nodes) != n*(n+1)/2) || e != api.OK && f.Nodes != nil {
			t.Errorf("%d symbols: %d nodes, %d ways, %d, want %d", n, len(f.Nodes), count, e, want)
		}
	}
	limits(t)
}

// limits reaches and passes the limits of nodes and of ways exactly.
func limits(t *testing.T) {
	t.Helper()
	// Each sort but s has an expression from each place to the end, but for the first sort, whose last ones are missing.
	nodes := func(sorts, rest int) grammar.Grammar {
		g := grammar.Grammar{Sorts: []string{"s"}}
		for i := range sorts {
			name := "u" + strings.Repeat("i", i)
			g.Sorts = append(g.Sorts, name)
			g.Rules = append(g.Rules, grammar.Rule{Label: name, Sort: "s", Parts: []grammar.Part{{Sort: name}}})
			long := grammar.Rule{Label: name + "a", Sort: name, Parts: []grammar.Part{{Symbol: "a"}, {Sort: name}}}
			short := grammar.Rule{Label: name + "b", Sort: name, Parts: []grammar.Part{{Symbol: "a"}}}
			if i == 0 {
				short.Parts = slices.Repeat(short.Parts, rest)
			}
			g.Rules = append(g.Rules, long, short)
		}
		return g
	}
	for _, x := range []struct {
		sorts, rest, want int
		e                 api.Errno
	}{{20, 1, 4001, api.ErrLarge}, {20, 2, 4000, api.OK}, {20, 3, 3999, api.OK}, {21, 200, 0, api.ErrLarge}} {
		f, e := Parse(nodes(x.sorts, x.rest), "s", symbols("a", 200))
		if e != x.e || e == api.OK && len(f.Nodes) != x.want {
			t.Errorf("%d nodes, %d, want %d, %d", len(f.Nodes), e, x.want, x.e)
		}
	}
	// With 62 symbols doubled has 39773 ways, and each rule for the whole one more.
	for n, want := range map[int]api.Errno{226: api.OK, 227: api.OK, 228: api.ErrLarge} {
		g := grammarOf("s d", "a d a", "b d d d")
		for i := range n {
			g.Rules = append(g.Rules, grammar.Rule{Label: strconv.Itoa(i), Sort: "s", Parts: []grammar.Part{{Sort: "d"}}})
		}
		if f, e := Parse(g, "s", symbols("a", 62)); e != want || e == api.OK && len(f.Nodes[0].Ways) != n {
			t.Errorf("%d ways: %d, want %d", n+39773, e, want)
		}
	}
}

// P14.1: the errors of Check, in their order.
func TestCheck(t *testing.T) {
	g := doubled()
	leaf := func(from int) Node { return Node{"s", from, from + 1, []Way{{0, nil}}} }
	row := Forest{}
	for i := range api.MaxNodes {
		row.Nodes = append(row.Nodes, leaf(i))
	}
	longer := Forest{append(slices.Clone(row.Nodes), leaf(0))}
	text := symbols("a", api.MaxNodes)
	for name, x := range map[string]struct {
		f    Forest
		want api.Errno
	}{
		"no nodes":               {Forest{}, api.ErrSize},
		"one node":               {Forest{[]Node{leaf(0)}}, api.OK},
		"one that is not ahead":  {Forest{[]Node{leaf(7)}}, api.OK},
		"nodes to the limit":     {row, api.OK},
		"too many nodes":         {longer, api.ErrSize},
		"two nodes":              {Forest{[]Node{leaf(3), leaf(0)}}, api.OK},
		"a node twice":           {Forest{[]Node{leaf(0), leaf(0)}}, api.ErrForm},
		"a node without ways":    {Forest{[]Node{{"s", 0, 1, nil}}}, api.ErrForm},
		"a way twice":            {Forest{[]Node{{"s", 0, 1, []Way{{0, nil}, {0, nil}}}}}, api.OK},
		"no such rule":           {Forest{[]Node{{"s", 0, 1, []Way{{2, nil}}}}}, api.ErrForm},
		"a rule below 0":         {Forest{[]Node{{"s", 0, 1, []Way{{-1, nil}}}}}, api.ErrForm},
		"another sort":           {Forest{[]Node{{"t", 0, 1, []Way{{0, nil}}}}}, api.ErrForm},
		"beyond the text":        {Forest{[]Node{{"s", api.MaxNodes, api.MaxNodes + 1, []Way{{0, nil}}}}}, api.ErrForm},
		"ahead of the text":      {Forest{[]Node{{"s", -1, 0, []Way{{0, nil}}}}}, api.ErrForm},
		"too short":              {Forest{[]Node{{"s", 0, 0, []Way{{0, nil}}}}}, api.ErrForm},
		"too long":               {Forest{[]Node{{"s", 0, 2, []Way{{0, nil}}}}}, api.ErrForm},
		"a kid too many":         {Forest{[]Node{{"s", 0, 1, []Way{{0, []int{0}}}}}}, api.ErrForm},
		"a kid too few":          {Forest{[]Node{{"s", 0, 1, []Way{{1, []int{0}}}}}}, api.ErrForm},
		"a kid that is none":     {Forest{[]Node{{"s", 0, 2, []Way{{1, []int{1, 3}}}}, leaf(0), leaf(1)}}, api.ErrForm},
		"a kid below 0":          {Forest{[]Node{{"s", 0, 2, []Way{{1, []int{1, -1}}}}, leaf(0), leaf(1)}}, api.ErrForm},
		"two kids":               {Forest{[]Node{{"s", 0, 2, []Way{{1, []int{1, 2}}}}, leaf(0), leaf(1)}}, api.OK},
		"two kids, exchanged":    {Forest{[]Node{{"s", 0, 2, []Way{{1, []int{2, 1}}}}, leaf(0), leaf(1)}}, api.ErrForm},
		"kids with a gap":        {Forest{[]Node{{"s", 0, 3, []Way{{1, []int{1, 2}}}}, leaf(0), leaf(2)}}, api.ErrForm},
		"a kid behind the node":  {Forest{[]Node{{"s", 0, 2, []Way{{1, []int{1, 2}}}}, leaf(0), {"s", 1, 3, []Way{{1, []int{3, 4}}}}, leaf(1), leaf(2)}}, api.ErrForm},
		"a node that is greater": {Forest{[]Node{{"s", 2, 1, []Way{{1, []int{0, 0}}}}}}, api.ErrForm},
	} {
		if e := Check(g, text, x.f); e != x.want {
			t.Errorf("%s: %d, want %d", name, e, x.want)
		}
	}
	if e := Check(g, []string{"b"}, Forest{[]Node{leaf(0)}}); e != api.ErrForm {
		t.Errorf("another symbol: %d", e)
	}
	if e := Check(grammarOf("s", "b s s"), nil, Forest{[]Node{{"s", 0, 0, []Way{{0, []int{0}}}}}}); e != api.OK {
		t.Errorf("a circle, each way of which is right: %d", e)
	}
	if e := Check(grammarOf("s", "b s s"), nil, Forest{[]Node{{"s", 1, 0, []Way{{0, []int{0}}}}}}); e != api.ErrForm {
		t.Errorf("a circle that ends ahead of its beginning: %d", e)
	}
}

// ladder returns a forest of n nodes with such ways, whose kids are all the next node, and a last one.
func ladder(n int, ways ...Way) Forest {
	var f Forest
	for i := range n {
		node := Node{}
		for _, w := range ways {
			x := Way{Rule: w.Rule}
			for range w.Kids {
				x.Kids = append(x.Kids, i+1)
			}
			node.Ways = append(node.Ways, x)
		}
		f.Nodes = append(f.Nodes, node)
	}
	f.Nodes = append(f.Nodes, Node{Ways: []Way{{}}})
	return f
}

// P14.1: the errors of Count and Trees, in their order, also of forests of no text.
func TestCount(t *testing.T) {
	one, two := []int{0}, []int{0, 0}
	billion := ladder(9, slices.Repeat([]Way{{0, one}}, 10)...)
	more := ladder(9, slices.Repeat([]Way{{0, one}}, 10)...)
	more.Nodes[0].Ways = append(more.Nodes[0].Ways, Way{0, []int{9}})
	none := more
	none.Nodes = append(slices.Clone(more.Nodes), Node{}, Node{})
	none.Nodes[0].Ways = []Way{{0, []int{1, 10}}, {0, []int{11}}, {0, []int{8}}}
	for name, x := range map[string]struct {
		f        Forest
		want     int
		e, trees api.Errno
	}{
		"no nodes":                    {Forest{}, 0, api.ErrForm, api.ErrForm},
		"one node":                    {ladder(0), 1, api.OK, api.OK},
		"a node without ways":         {Forest{[]Node{{}}}, 0, api.OK, api.OK},
		"a kid that is none":          {Forest{[]Node{{Ways: []Way{{0, []int{1}}}}}}, 0, api.ErrForm, api.ErrForm},
		"a kid below 0":               {Forest{[]Node{{Ways: []Way{{0, []int{-1}}}}}}, 0, api.ErrForm, api.ErrForm},
		"one that is not reached":     {Forest{[]Node{{Ways: []Way{{}}}, {Ways: []Way{{0, []int{2}}}}}}, 0, api.ErrForm, api.ErrForm},
		"a circle":                    {Forest{[]Node{{Ways: []Way{{0, one}, {}}}}}, 0, ErrInfinite, ErrInfinite},
		"a circle, and a wrong kid":   {Forest{[]Node{{Ways: []Way{{0, one}, {0, []int{5}}}}}}, 0, api.ErrForm, api.ErrForm},
		"a circle without trees":      {Forest{[]Node{{Ways: []Way{{0, []int{0, 1}}}}, {}}}, 0, ErrInfinite, ErrInfinite},
		"a circle that is not met":    {Forest{[]Node{{Ways: []Way{{}}}, {Ways: []Way{{0, []int{1}}}}}}, 1, api.OK, api.OK},
		"a circle behind":             {Forest{[]Node{{Ways: []Way{{0, []int{1}}}}, {Ways: []Way{{0, []int{2}}}}, {Ways: []Way{{0, []int{1}}, {}}}}}, 0, ErrInfinite, ErrInfinite},
		"a billion":                   {billion, 1000000000, api.OK, api.OK},
		"one more":                    {more, 0, api.ErrLarge, api.OK},
		"more, but not of the node 0": {none, 10, api.OK, api.OK},
		"two to the 30th":             {ladder(30, Way{0, one}, Way{0, one}), 0, api.ErrLarge, api.OK},
		"two to the 200th":            {ladder(200, Way{0, one}, Way{0, one}), 0, api.ErrLarge, api.ErrDepth},
		"one of a great depth":        {ladder(1000000, Way{0, one}), 1, api.OK, api.ErrSize},
		"one of a great size":         {ladder(90, Way{0, two}), 1, api.OK, api.ErrSize},
		"100 deep":                    {ladder(99, Way{0, one}), 1, api.OK, api.OK},
		"101 deep":                    {ladder(100, Way{0, one}), 1, api.OK, api.ErrDepth},
		"4095 nodes":                  {ladder(11, Way{0, two}), 1, api.OK, api.ErrSize},
		"2047 nodes":                  {ladder(10, Way{0, two}), 1, api.OK, api.OK},
	} {
		if n, e := Count(x.f); n != x.want || e != x.e {
			t.Errorf("%s: %d, %d, want %d, %d", name, n, e, x.want, x.e)
		}
		if l, e := Trees(doubled(), x.f, 200); e != x.trees || e != api.OK && l != nil || x.e == api.OK && e == api.OK && len(l) != min(200, x.want) {
			t.Errorf("%s: %d trees, %d, want %d", name, len(l), e, x.trees)
		}
	}
}

// P14.1: the errors of Trees, in their order.
func TestTreesErrors(t *testing.T) {
	g := doubled()
	deep := ladder(100, Way{0, []int{0}})
	large := ladder(12, Way{0, []int{0, 0}})
	wrong := func(f Forest, rule int) Forest {
		f.Nodes = slices.Clone(f.Nodes)
		last := len(f.Nodes) - 1
		f.Nodes[last] = Node{Ways: []Way{{rule, nil}}}
		return f
	}
	pair := Forest{[]Node{{Ways: []Way{{0, nil}, {5, nil}}}}}
	both := Forest{append(slices.Clone(deep.Nodes), Node{Ways: []Way{{0, nil}}})}
	both.Nodes[0].Ways = append([]Way{{0, nil}}, both.Nodes[0].Ways...)
	for name, x := range map[string]struct {
		f    Forest
		most int
		want api.Errno
		n    int
	}{
		"none wanted":             {pair, 0, api.OK, 0},
		"the first one":           {pair, 1, api.OK, 1},
		"a rule that is none":     {pair, 2, api.ErrForm, 0},
		"below 0":                 {pair, -1, api.ErrRange, 0},
		"too many":                {pair, 201, api.ErrRange, 0},
		"200":                     {ladder(10, Way{0, []int{0}}, Way{0, []int{0}}), 200, api.OK, 200},
		"too deep, out of range":  {deep, 201, api.ErrRange, 0},
		"too deep":                {deep, 1, api.ErrDepth, 0},
		"too deep, a wrong rule":  {wrong(deep, 2), 1, api.ErrForm, 0},
		"too large":               {large, 1, api.ErrSize, 0},
		"too large, a wrong rule": {wrong(large, -1), 1, api.ErrForm, 0},
		"none of them":            {deep, 0, api.OK, 0},
		"ahead of the deep one":   {both, 1, api.OK, 1},
		"with the deep one":       {both, 2, api.ErrDepth, 0},
	} {
		l, e := Trees(g, x.f, x.most)
		if e != x.want || len(l) != x.n {
			t.Errorf("%s: %d trees, %d, want %d, %d", name, len(l), e, x.n, x.want)
		}
	}
}

// chain returns a tree of nodes with one kid each.
func chain(label string, n int) api.Tree {
	t := api.Tree{Label: label}
	for range n - 1 {
		t = api.Tree{Label: label, Kids: []api.Tree{t}}
	}
	return t
}

// P14.1: the errors of Text and Sort, in their order.
func TestText(t *testing.T) {
	g := grammarOf("s t", "e s", "n s - s", "w s x s y t z", "c t k", "m s"+strings.Repeat(" a", 200), "q s"+strings.Repeat(" s", 10))
	g.Rules[2].Parts[1].Arg, g.Rules[2].Parts[3].Arg = 1, 0
	wide := api.Tree{Label: "c", Kids: make([]api.Tree, api.MaxNodes)}
	ten := api.Tree{Label: "q", Kids: slices.Repeat([]api.Tree{{Label: "m"}}, 10)}
	eleven := api.Tree{Label: "n", Kids: []api.Tree{ten}}
	for name, x := range map[string]struct {
		t    api.Tree
		want string
		sort string
		e    api.Errno
	}{
		"nothing":              {tree("e"), "", "s", api.OK},
		"one symbol":           {tree("n(e)"), "-", "s", api.OK},
		"args in their order":  {tree("w(c,n(e))"), "x - y k z", "s", api.OK},
		"args exchanged":       {tree("w(n(e),c)"), "", "", api.ErrForm},
		"no such label":        {tree("w(c,n(x))"), "", "", api.ErrForm},
		"an empty tree":        {api.Tree{}, "", "", api.ErrForm},
		"a kid too few":        {tree("n"), "", "", api.ErrForm},
		"a kid too many":       {tree("c(c)"), "", "", api.ErrForm},
		"a kid of a wrong one": {tree("n(n(c))"), "", "", api.ErrForm},
		"100 deep":             {chain("n", 100), "", "", api.ErrForm},
		"101 deep":             {chain("n", 101), "", "", api.ErrDepth},
		"4000 deep":            {chain("n", 4000), "", "", api.ErrDepth},
		"4001 deep":            {chain("n", 4001), "", "", api.ErrSize},
		"very deep":            {chain("n", 300000), "", "", api.ErrSize},
		"too many nodes":       {wide, "", "", api.ErrSize},
		"2000 symbols":         {ten, strings.TrimSpace(strings.Repeat("a ", 2000)), "s", api.OK},
	} {
		l, e := Text(g, x.t)
		if e != x.e || strings.Join(l, " ") != x.want {
			t.Errorf("%s: %q, %d, want %q, %d", name, l, e, x.want, x.e)
		}
		if s, e := Sort(g, x.t); s != x.sort || e != x.e {
			t.Errorf("%s: the sort %q, %d, want %q, %d", name, s, e, x.sort, x.e)
		}
	}
	wide.Kids = wide.Kids[1:]
	if _, e := Text(g, wide); e != api.ErrForm {
		t.Errorf("4000 nodes: %d", e)
	}
	if l, e := Text(g, eleven); l != nil || e != api.ErrLarge {
		t.Errorf("2001 symbols: %q, %d", l, e)
	}
	if s, e := Sort(g, eleven); s != "s" || e != api.OK {
		t.Errorf("2001 symbols: the sort %q, %d", s, e)
	}
	shared := tree("e")
	for range 90 {
		shared = api.Tree{Label: "w", Kids: []api.Tree{shared, shared}}
	}
	if _, e := Text(g, shared); e != api.ErrSize {
		t.Errorf("a tree of two to the 90th nodes: %d", e)
	}
}
