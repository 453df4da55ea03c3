package grammar

import (
	"slices"
	"strconv"
	"strings"
	"testing"

	"apodixis/api"
	"apodixis/frame"
	"apodixis/layout"
)

// logic is the grammar of the document's example.
func logic() Grammar {
	g := grammarOf("wff", "wph wff ph", "wps wff ps", "wn wff -. wff", "wi wff ( wff -> wff )")
	g.Rules[0].Variable, g.Rules[1].Variable = true, true
	return g
}

// database returns the database of a text.
func database(t *testing.T, s string) api.Database {
	t.Helper()
	l, _, e := layout.Parse(strings.Fields(s))
	db, _, f := frame.Database(l)
	if e != api.OK || f != api.OK {
		t.Fatalf("%q: %d, %d", s, e, f)
	}
	return db
}

const start = "$c wff class |- ( ) -> -. = $. $v x ph y ps $. wps $f wff ps $. cx $f class x $. wph $f wff ph $. cy $f class y $. "

// P13.1: the grammar of a database.
func TestOf(t *testing.T) {
	db := database(t, start+`wi $a wff ( ps -> ph ) $. weq $a wff y = x $. e $a class $. ${ h $e |- ph $. not $a wff = ph $. $}
thm $p wff ( ph -> ph ) $= ? $. ax $a |- ( ph -> ph ) $. xx $a |- -. $. paren $a wff ( $. other $a = x x $.`)
	want := grammarOf("class wff", "cx class x", "wph wff ph", "cy class y", "wps wff ps", "wi wff ( wff -> wff )", "weq wff class = class", "e class", "paren wff (")
	for i := range 4 {
		want.Rules[i].Variable = true
	}
	want.Rules[4].Parts[1].Arg, want.Rules[4].Parts[3].Arg = 0, 1 // ps stands ahead of ph
	want.Rules[5].Parts[0].Arg, want.Rules[5].Parts[2].Arg = 1, 0 // y stands behind x
	g, e := Of(db)
	if e != api.OK || !same(g, want) {
		t.Errorf("%v, %d, want %v", g, e, want)
	}
	if e := Check(g); e != api.OK {
		t.Errorf("Check: %d", e)
	}
	if g, e := Of(api.Database{}); e != api.OK || !same(g, Grammar{}) {
		t.Errorf("no frames: %v, %d", g, e)
	}
}

func same(g, h Grammar) bool {
	return slices.Equal(g.Sorts, h.Sorts) && slices.EqualFunc(g.Rules, h.Rules, func(a, b Rule) bool {
		return a.Label == b.Label && a.Sort == b.Sort && a.Variable == b.Variable && slices.Equal(a.Parts, b.Parts)
	})
}

// P13.1: the errors of Of, in their order.
func TestOfErrors(t *testing.T) {
	sorts := func(n int, rest string) api.Database {
		s := "$c |- "
		for i := range n {
			s += "s" + strconv.Itoa(i) + " "
		}
		s += "$. "
		for i := range n {
			v := "v" + strconv.Itoa(i)
			s += "$v " + v + " $. f" + v + " $f s" + strconv.Itoa(i) + " " + v + " $. "
		}
		return database(t, s+rest)
	}
	variable := api.Database{Constants: []string{"wff"}, Variables: []string{"x"}}
	for name, x := range map[string]struct {
		db   api.Database
		want api.Errno
	}{
		"a wrong database":            {api.Database{Frames: []api.Frame{{}}}, api.ErrForm},
		"a variable without frames":   {variable, api.ErrState},
		"a variable that comes late":  {database(t, "$c c $. a $a c $. $v x $. fx $f c x $. b $a c x $."), api.ErrState},
		"an unsettled one, turnstile": {database(t, "$c |- $. a $a |- $. $v x $. fx $f |- x $. b $a |- x x $."), api.ErrState},
		"a variable of turnstile":     {database(t, "$c |- $. $v x $. fx $f |- x $. b $a |- x x $."), api.ErrType},
		"a variable twice":            {database(t, start+"b $a wff ( x = x ) $."), ErrRepeat},
		"twice in no syntax axiom":    {database(t, start+"b $a |- ( x = x ) $. c $a = x x $. d $p wff x x $= ? $."), api.OK},
		"as many sorts as may be":     {sorts(32, "a $a |- $."), api.OK},
		"a sort too many":             {sorts(33, "a $a |- $."), api.ErrSize},
		"too many, and one twice":     {sorts(33, "a $a s1 v1 v1 $."), ErrRepeat},
	} {
		g, e := Of(x.db)
		if e != x.want || e != api.OK && !same(g, Grammar{}) {
			t.Errorf("%s: %v, %d, want %d", name, g, e, x.want)
		}
	}
}

// P13.5: the texts of syntax axioms are expressions of their sorts.
func TestAxioms(t *testing.T) {
	db := database(t, start+"wn $a wff -. ph $. wi $a wff ( ps -> ph ) $. weq $a wff y = x $. e $a class $. ax $a |- ( ph -> ph ) $.")
	g, e := Of(db)
	if e != api.OK || Check(g) != api.OK {
		t.Fatalf("%v, %d", g, e)
	}
	for _, f := range db.Frames[:4] {
		l, e := Sentences(g, f.Text[0], len(f.Text)-1)
		isText := func(s []string) bool { return slices.Equal(s, f.Text[1:]) }
		if e != api.OK || !slices.ContainsFunc(l, isText) {
			t.Errorf("%q is not among %q, %d", f.Text, l, e)
		}
	}
}

// P13.1: the sort of typecodes, and the rule of a label.
func TestNamesOfSorts(t *testing.T) {
	for s, want := range map[string]string{"|-": "wff", "wff": "wff", "class": "class", "": "", "|": "|"} {
		if got := Sort(s); got != want {
			t.Errorf("the sort of %q: %q", s, got)
		}
	}
	g := logic()
	g.Rules = append(g.Rules, Rule{Label: "wn"}, Rule{})
	for s, want := range map[string]int{"wph": 0, "wn": 2, "wi": 3, "": 5, "x": -1} {
		if got := Find(g, s); got != want {
			t.Errorf("Find %q: %d", s, got)
		}
	}
	if got := Find(Grammar{}, ""); got != -1 {
		t.Errorf("Find in nothing: %d", got)
	}
}

// many returns a grammar with as many sorts, and rules of a first one with as many parts each.
func many(sorts, rules, parts int) Grammar {
	g := Grammar{}
	for i := range sorts {
		g.Sorts = append(g.Sorts, "s"+strconv.Itoa(i))
	}
	for i := range rules {
		r := Rule{Label: "r" + strconv.Itoa(i), Sort: "s0"}
		for j := range parts {
			r.Parts = append(r.Parts, Part{Symbol: strconv.Itoa(i) + "." + strconv.Itoa(j)})
		}
		g.Rules = append(g.Rules, r)
	}
	return g
}

// P13.1: the errors of grammars, ErrSize ahead of ErrRule.
func TestCheck(t *testing.T) {
	label := strings.Repeat("l", api.MaxLabel)
	changed := func(change func(g *Grammar)) Grammar {
		g := logic()
		change(&g)
		return g
	}
	twice := many(33, 0, 0)
	twice.Sorts[1] = twice.Sorts[0]
	for name, x := range map[string]struct {
		g    Grammar
		want api.Errno
	}{
		"nothing":                    {Grammar{}, api.OK},
		"the example":                {logic(), api.OK},
		"the limits":                 {many(32, 600, 200), api.OK},
		"too many sorts":             {many(33, 1, 1), api.ErrSize},
		"too many rules":             {many(1, 601, 1), api.ErrSize},
		"too many parts":             {many(1, 1, 201), api.ErrSize},
		"a sort twice, and too many": {twice, api.ErrSize},
		"rules without sorts":        {many(0, 1, 1), ErrRule},
		"too many parts behind":      {changed(func(g *Grammar) { g.Sorts[0], g.Rules[3].Parts = "", make([]Part, 201) }), api.ErrSize},
		"an empty sort":              {changed(func(g *Grammar) { g.Sorts = append(g.Sorts, "") }), ErrRule},
		"a sort twice":               {changed(func(g *Grammar) { g.Sorts = append(g.Sorts, "wff") }), ErrRule},
		"a long sort":                {changed(func(g *Grammar) { g.Sorts = append(g.Sorts, label) }), api.OK},
		"a longer sort":              {changed(func(g *Grammar) { g.Sorts = append(g.Sorts, label+"l") }), ErrRule},
		"an empty label":             {changed(func(g *Grammar) { g.Rules[0].Label = "" }), ErrRule},
		"a label twice":              {changed(func(g *Grammar) { g.Rules[3].Label = "wn" }), ErrRule},
		"a long label":               {changed(func(g *Grammar) { g.Rules[0].Label = label }), api.OK},
		"a longer label":             {changed(func(g *Grammar) { g.Rules[0].Label = label + "l" }), ErrRule},
		"a label of any bytes":       {changed(func(g *Grammar) { g.Rules[0].Label = "\xff \n" }), api.OK},
		"a rule of no sort":          {changed(func(g *Grammar) { g.Rules[2].Sort = "class" }), ErrRule},
		"a part of nothing":          {changed(func(g *Grammar) { g.Rules[2].Parts[0].Symbol = "" }), ErrRule},
		"a part of both":             {changed(func(g *Grammar) { g.Rules[2].Parts[1].Symbol = "x" }), ErrRule},
		"a part of no sort":          {changed(func(g *Grammar) { g.Rules[2].Parts[1].Sort = "class" }), ErrRule},
		"a symbol with an Arg":       {changed(func(g *Grammar) { g.Rules[2].Parts[0].Arg = 1 }), ErrRule},
		"a long symbol":              {changed(func(g *Grammar) { g.Rules[2].Parts[0].Symbol = label }), api.OK},
		"a longer symbol":            {changed(func(g *Grammar) { g.Rules[2].Parts[0].Symbol = label + "l" }), ErrRule},
		"an Arg below 0":             {changed(func(g *Grammar) { g.Rules[2].Parts[1].Arg = -1 }), ErrRule},
		"an Arg too great":           {changed(func(g *Grammar) { g.Rules[3].Parts[3].Arg = 2 }), ErrRule},
		"an Arg twice":               {changed(func(g *Grammar) { g.Rules[3].Parts[3].Arg = 0 }), ErrRule},
		"Args in another order":      {changed(func(g *Grammar) { g.Rules[3].Parts[1].Arg, g.Rules[3].Parts[3].Arg = 1, 0 }), api.OK},
		"a variable of two symbols":  {changed(func(g *Grammar) { g.Rules[0].Parts = append(g.Rules[0].Parts, Part{Symbol: "x"}) }), ErrRule},
		"a variable of nothing":      {changed(func(g *Grammar) { g.Rules[0].Parts = nil }), ErrRule},
		"a variable of a sort":       {changed(func(g *Grammar) { g.Rules[0].Parts = []Part{{Sort: "wff"}} }), ErrRule},
		"a rule for nothing":         {changed(func(g *Grammar) { g.Rules[3].Parts = nil }), api.OK},
	} {
		if e := Check(x.g); e != x.want {
			t.Errorf("%s: %d, want %d", name, e, x.want)
		}
		if x.want != api.OK {
			checkAll(t, name, x.g, "x", 99, x.want)
		}
	}
	checkAll(t, "no such sort", logic(), "class", 99, api.OK)
	checkAll(t, "no sorts", Grammar{}, "", 99, api.OK)
}

// checkAll checks that all functions tell the error of a grammar, and otherwise that it has not the sort.
func checkAll(t *testing.T, name string, g Grammar, sort string, most int, want api.Errno) {
	t.Helper()
	for i, list := range []func(Grammar) ([]string, api.Errno){Nullable, Productive, Cyclic} {
		if l, e := list(g); e != want || e != api.OK && l != nil {
			t.Errorf("%s: list %d: %q, %d, want %d", name, i, l, e, want)
		}
	}
	if want == api.OK {
		want = api.ErrNone
	}
	for i, list := range []func(Grammar, string) ([]string, api.Errno){Reachable, First} {
		if l, e := list(g, sort); e != want || l != nil {
			t.Errorf("%s: list %d of a sort: %q, %d, want %d", name, i, l, e, want)
		}
	}
	if n, e := Least(g, sort); n != 0 || e != want {
		t.Errorf("%s: Least: %d, %d, want %d", name, n, e, want)
	}
	if l, e := Sentences(g, sort, most); l != nil || e != want {
		t.Errorf("%s: Sentences: %q, %d, want %d", name, l, e, want)
	}
}

// P13.1: the document's examples, and what is written down by hand.
func TestExamples(t *testing.T) {
	g := logic()
	first, _ := First(g, "wff")
	if !slices.Equal(first, []string{"(", "-.", "ph", "ps"}) {
		t.Errorf("First: %q", first)
	}
	l, e := Sentences(g, "wff", 2)
	if e != api.OK || !equal(l, [][]string{{"ph"}, {"ps"}, {"-.", "ph"}, {"-.", "ps"}}) {
		t.Errorf("Sentences: %q, %d", l, e)
	}
	circle := grammarOf("wff class", "a wff class", "b class wff", "c class x")
	if l, e := Cyclic(circle); e != api.OK || !slices.Equal(l, []string{"wff", "class"}) {
		t.Errorf("Cyclic: %q, %d", l, e)
	}
	circle.Rules = circle.Rules[:2] // no sort has an expression any more
	if l, e := Cyclic(circle); e != api.OK || l != nil {
		t.Errorf("Cyclic without expressions: %q, %d", l, e)
	}
	lost := grammarOf("s t", "a s x t", "b s y", "c s t s", "d t t")
	if l, _ := First(lost, "s"); !slices.Equal(l, []string{"y"}) {
		t.Errorf("First, of which rules have no expression: %q", l)
	}
	if l, _ := Reachable(lost, "s"); !slices.Equal(l, []string{"s", "t"}) {
		t.Errorf("Reachable: %q", l)
	}
	if l, e := Sentences(grammarOf("s"), "s", 12); l != nil || e != api.OK {
		t.Errorf("a sort without rules: %q, %d", l, e)
	}
	if l, e := First(grammarOf("s"), "s"); l != nil || e != api.OK {
		t.Errorf("First of a sort without rules: %q, %d", l, e)
	}
}

// P13.1: the length of the shortest expression, up to its limit.
func TestLeast(t *testing.T) {
	// The sort s0 has n symbols, and each other one ten of the one ahead.
	tower := func(n int) Grammar {
		g := grammarOf("s0 s1 s2 s3 s4 s5 t", "r0 s0 "+strings.Repeat("a ", n))
		for i := range 5 {
			p := "s" + strconv.Itoa(i) + " "
			g.Rules = append(g.Rules, grammarOf("s0 s1 s2 s3 s4 s5", "r"+strconv.Itoa(i+1)+" s"+strconv.Itoa(i+1)+" "+strings.Repeat(p, 10)).Rules...)
		}
		g.Rules = append(g.Rules, grammarOf("s5 t", "t t s5 a", "u t t b").Rules...)
		return g
	}
	for _, x := range []struct {
		n    int
		sort string
		want int
		e    api.Errno
	}{
		{1, "s5", 100000, api.OK}, {10, "s5", 1000000, api.OK}, {10, "t", 0, api.ErrLarge}, {11, "s5", 0, api.ErrLarge}, {9, "t", 900001, api.OK}, {0, "s5", 0, api.OK}, {0, "t", 1, api.OK},
	} {
		if n, e := Least(tower(x.n), x.sort); n != x.want || e != x.e {
			t.Errorf("%d, %s: %d, %d, want %d, %d", x.n, x.sort, n, e, x.want, x.e)
		}
	}
	high := Grammar{Sorts: many(32, 0, 0).Sorts, Rules: []Rule{{Label: "r", Sort: "s0", Parts: []Part{{Symbol: "a"}}}}}
	for i := range 31 {
		r := Rule{Label: strconv.Itoa(i), Sort: high.Sorts[i+1]}
		for arg := range api.MaxSymbols {
			r.Parts = append(r.Parts, Part{Sort: high.Sorts[i], Arg: arg})
		}
		high.Rules = append(high.Rules, r)
	}
	if n, e := Least(high, "s31"); n != 0 || e != api.ErrLarge {
		t.Errorf("200 to the 31st: %d, %d", n, e)
	}
	if l, e := Sentences(high, "s31", 12); l != nil || e != api.OK {
		t.Errorf("short sentences of long ones: %q, %d", l, e)
	}
}

// P13.1: the limits of Sentences.
func TestSentencesLimits(t *testing.T) {
	// s has n expressions of one symbol, and t none, but a part of the sort s.
	wide := func(n int) Grammar {
		g := Grammar{Sorts: []string{"s", "t", "u"}, Rules: []Rule{{Label: "t", Sort: "t", Parts: []Part{{Sort: "s"}, {Sort: "t", Arg: 1}}}, {Label: "u", Sort: "u"}}}
		for i := range 50 {
			g.Rules = append(g.Rules, Rule{Label: "a" + strconv.Itoa(i), Sort: "s", Parts: []Part{{Symbol: strconv.Itoa(i)}}})
		}
		for i := range 40 {
			r := Rule{Label: "b" + strconv.Itoa(i), Sort: "s", Parts: []Part{{Symbol: "b" + strconv.Itoa(i)}, {Symbol: "b"}}}
			g.Rules = append(g.Rules, r)
		}
		for i := range n - 90 {
			r := Rule{Label: "c" + strconv.Itoa(i), Sort: "s", Parts: []Part{{Symbol: "c" + strconv.Itoa(i/2)}, {Symbol: "c" + strconv.Itoa(i%2)}, {Symbol: "c"}}}
			g.Rules = append(g.Rules, r)
		}
		return g
	}
	for _, x := range []struct {
		sort string
		most int
		want int
		e    api.Errno
	}{
		{"s", 3, 300, api.OK}, {"s", 2, 90, api.OK}, {"s", 1, 50, api.OK}, {"s", 0, 0, api.OK},
		{"s", -1, 0, api.ErrRange}, {"s", 13, 0, api.ErrRange}, {"v", -1, 0, api.ErrNone}, {"u", 12, 1, api.OK}, {"t", 12, 0, api.OK},
	} {
		if l, e := Sentences(wide(300), x.sort, x.most); len(l) != x.want || e != x.e {
			t.Errorf("%s up to %d: %d, %d, want %d, %d", x.sort, x.most, len(l), e, x.want, x.e)
		}
	}
	// All texts of 44 symbols of the length 2, and 63 or 64 of one: 2000 and 2001.
	square := func(n int) Grammar {
		g := Grammar{Sorts: []string{"s", "t", "u"}, Rules: []Rule{
			{Label: "s", Sort: "s", Parts: []Part{{Sort: "t"}, {Sort: "t", Arg: 1}}},
			{Label: "u", Sort: "u", Parts: []Part{{Symbol: "x"}, {Sort: "s"}, {Symbol: "y"}, {Symbol: "y"}}},
		}}
		for i := range 44 {
			g.Rules = append(g.Rules, Rule{Label: "a" + strconv.Itoa(i), Sort: "t", Parts: []Part{{Symbol: strconv.Itoa(i)}}})
		}
		for i := range n - 44*44 {
			g.Rules = append(g.Rules, Rule{Label: "b" + strconv.Itoa(i), Sort: "s", Parts: []Part{{Symbol: strconv.Itoa(i)}}})
		}
		return g
	}
	for n, want := range map[int]api.Errno{2000: api.OK, 2001: api.ErrLarge} {
		if l, e := Sentences(square(n), "s", 2); e != want || e == api.OK && len(l) != n {
			t.Errorf("%d sentences: %d, %d", n, len(l), e)
		}
		// The sort s counts for u, also where it is too long for a sentence of u.
		if l, e := Sentences(square(n), "u", 2); e != want || l != nil {
			t.Errorf("%d sentences of a part: %d, %d", n, len(l), e)
		}
		if l, e := Sentences(square(n), "t", 12); e != api.OK || len(l) != 44 {
			t.Errorf("%d sentences of another sort: %d, %d", n, len(l), e)
		}
	}
	for _, parts := range []string{"t t", "t t u", "u t t t"} { // 46 by 46 beginnings
		g := grammarOf("s t u", "s s "+parts, "u u")
		for i := range 46 {
			g.Rules = append(g.Rules, Rule{Label: "t" + strconv.Itoa(i), Sort: "t", Parts: []Part{{Symbol: strconv.Itoa(i)}}})
		}
		if l, e := Sentences(g, "s", 3); e != api.ErrLarge || l != nil {
			t.Errorf("many by one rule: %d, %d", len(l), e)
		}
		if l, e := Sentences(g, "s", 1); e != api.OK || l != nil {
			t.Errorf("many that are too long: %d, %d", len(l), e)
		}
	}
	nothing := grammarOf("s n", "s s"+strings.Repeat(" n", 200), "n n", "a n a")
	if l, e := Sentences(nothing, "s", 12); len(l) != 13 || e != api.OK {
		t.Errorf("200 parts that may be empty: %d, %d", len(l), e)
	}
}
