package scope

import (
	"errors"
	"math/rand"
	"slices"
	"strings"
	"testing"

	"apodixis/api"
	"apodixis/layout"
)

// parse returns the statements of a text.
func parse(t *testing.T, s string) []api.Statement {
	t.Helper()
	l, _, e := layout.Parse(strings.Fields(s))
	if e != api.OK {
		t.Fatalf("Parse of %q: %d", s, e)
	}
	return l
}

const base = "$c wff |- -> $. $v p q $. wp $f wff p $. " // 3 statements

// P4.1: each rule, and the order of the rules.
func TestCheck(t *testing.T) {
	for _, x := range []struct {
		more string
		at   int
		e    api.Errno
	}{
		{"", 0, api.OK}, {"${ ${ $} $}", 0, api.OK},
		// scopes
		{"$}", 3, ErrScopes}, {"${ $} $}", 5, ErrScopes}, {"${ ${ $}", 3, ErrScopes}, {"${ ${", 4, ErrScopes}, {"${ $c x $. $}", 4, ErrNested}, {"${ $c p $. $}", 4, ErrNested},
		// constants
		{"$c x y $.", 0, api.OK}, {"$c wff $.", 3, ErrDeclared}, {"$c p $.", 3, ErrDeclared}, {"$c x x $.", 3, ErrDeclared}, {"$c wp $.", 3, ErrDeclared}, {"${ $v x $. $} $c x $.", 6, ErrDeclared}, {"${ m $e |- p $. $} $c m $.", 6, ErrDeclared},
		// variables
		{"$v x y $.", 0, api.OK}, {"$v p $.", 3, ErrDeclared}, {"$v wff $.", 3, ErrDeclared}, {"$v x x $.", 3, ErrDeclared}, {"$v wp $.", 3, ErrDeclared}, {"${ $v p $. $}", 4, ErrDeclared}, {"${ $v x $. $} $v x $.", 0, api.OK}, {"${ m $e |- p $. $} $v m $.", 6, ErrDeclared}, {"a $a |- $. $v a $.", 4, ErrDeclared},
		// labels
		{"wp $a |- p $.", 3, ErrLabel}, {"p $a |- p $.", 3, ErrLabel}, {"wff $e x x $.", 3, ErrLabel}, {"${ $v x $. $} x $a x $.", 6, ErrLabel}, {"${ m $e |- $. $} m $f x x $.", 6, ErrLabel}, {"wp $f x p $.", 3, ErrLabel}, {"a $p |- $= $. a $a |- $.", 4, ErrLabel},
		// first symbols
		{"a $a x y $.", 3, ErrActive}, {"a $a p y $.", 3, ErrConstant}, {"a $f x y $.", 3, ErrActive}, {"a $f q y $.", 3, ErrConstant}, {"a $e q $.", 3, ErrConstant}, {"a $p q $= $.", 3, ErrConstant}, {"a $a |- $.", 0, api.OK}, {"${ $v x $. $} a $a x $.", 6, ErrActive},
		// floating hypotheses
		{"w $f wff x $.", 3, ErrActive}, {"w $f wff -> $.", 3, ErrConstant}, {"w $f wff p $.", 3, ErrTyped}, {"w $f |- p $.", 3, ErrTyped}, {"w $f |- q $.", 0, api.OK}, {"${ w $f wff q $. $} v $f |- q $.", 6, ErrTyped}, {"${ w $f wff q $. $} v $f wff q $.", 0, api.OK},
		{"${ $v x $. w $f wff x $. $} $v x $. v $f |- x $.", 8, ErrTyped}, {"${ $v x $. w $f wff x $. $} $v x $. v $f wff x $.", 0, api.OK}, {"${ v $f wff p $. $}", 4, ErrTyped}, {"${ w $f wff q $. ${ v $f wff q $. $} $}", 6, ErrTyped}, {"${ $v x $. $} w $f wff x $.", 6, ErrActive},
		// further symbols
		{"a $a |- p -> p $.", 0, api.OK}, {"a $a |- q r $.", 3, ErrTyped}, {"a $a |- r q $.", 3, ErrActive}, {"a $e |- q $.", 3, ErrTyped}, {"a $p |- p q $= $.", 3, ErrTyped}, {"${ w $f wff q $. a $a |- q $. $} b $a |- q $.", 7, ErrTyped},
		// disjointness
		{"$d p q $.", 0, api.OK}, {"$d p $.", 3, ErrDisjoint}, {"$d x $.", 3, ErrDisjoint}, {"$d p p x $.", 3, ErrDisjoint}, {"$d p x x $.", 3, ErrActive}, {"$d p wff $.", 3, ErrDisjoint}, {"${ $v x $. $} $d p x $.", 6, ErrActive},
	} {
		if at, e := Check(parse(t, base+x.more)); at != x.at || e != x.e {
			t.Errorf("Check of %q: %d, %d, want %d, %d", x.more, at, e, x.at, x.e)
		}
	}
	if at, e := Check(nil); at != 0 || e != api.OK {
		t.Errorf("Check of nothing: %d, %d", at, e)
	}
}

// P4.1: statements that are not well-formed, and the limits.
func TestCheckLimits(t *testing.T) {
	open, end := api.Statement{Kind: api.Open}, api.Statement{Kind: api.Close}
	nested := func(n int) []api.Statement {
		return append(slices.Repeat([]api.Statement{open}, n), slices.Repeat([]api.Statement{end}, n)...)
	}
	flat := slices.Repeat([]api.Statement{open, end}, api.MaxStatements/2)
	for name, x := range map[string]struct {
		l  []api.Statement
		at int
		e  api.Errno
	}{
		"no kind":                      {[]api.Statement{open, {}, end}, 1, api.ErrForm},
		"a kind too high":              {[]api.Statement{{Kind: 10}}, 0, api.ErrForm},
		"not well-formed ahead of all": {[]api.Statement{{Kind: api.Close, Label: "x"}}, 0, api.ErrForm},
		"no symbol":                    {[]api.Statement{{Kind: api.Axiom, Label: "a"}}, 0, api.ErrForm},
		"a floating one of one symbol": {[]api.Statement{{Kind: api.Floating, Label: "a", Text: []string{"x"}}}, 0, api.ErrForm},
		"the greatest depth":           {nested(api.MaxDepth), 0, api.OK},
		"too deep":                     {nested(api.MaxDepth + 1), api.MaxDepth, api.ErrDepth},
		"the most statements":          {flat, 0, api.OK},
		"one statement too many":       {append(flat, end), 0, api.ErrFull},
		"too many, and one is wrong":   {append([]api.Statement{end}, flat...), 0, api.ErrFull},
		"a long proof": {[]api.Statement{{Kind: api.Constants, Text: []string{"x"}},
			{Kind: api.Theorem, Label: "t", Text: []string{"x"}, Proof: slices.Repeat([]string{"?"}, api.MaxTokens+1)}}, 0, api.OK},
	} {
		if at, e := Check(x.l); at != x.at || e != x.e {
			t.Errorf("%s: %d, %d, want %d, %d", name, at, e, x.at, x.e)
		}
	}
}

// sameActive reports whether two places have the same active things.
func sameActive(a, b Active) bool {
	return a.Depth == b.Depth && slices.Equal(a.Constants, b.Constants) && slices.Equal(a.Variables, b.Variables) && slices.Equal(a.Apart, b.Apart) &&
		slices.EqualFunc(a.Hyps, b.Hyps, func(h, k api.Hyp) bool {
			return h.Label == k.Label && h.Floating == k.Floating && slices.Equal(h.Text, k.Text)
		})
}

// P4.1: what is active.
func TestAt(t *testing.T) {
	l := parse(t, "$v q p $. $c wff |- $. wq $f wff q $. ${ $v r $. $d r q p $. m $e |- q $. ${ wp $f wff p $. $d p q $. n $e |- p $. $} a $a |- q $. $} $c x $.")
	wq, m := api.Hyp{Label: "wq", Floating: true, Text: []string{"wff", "q"}}, api.Hyp{Label: "m", Text: []string{"|-", "q"}}
	wp, n := api.Hyp{Label: "wp", Floating: true, Text: []string{"wff", "p"}}, api.Hyp{Label: "n", Text: []string{"|-", "p"}}
	all := []api.Pair{{A: "p", B: "q"}, {A: "p", B: "r"}, {A: "q", B: "r"}}
	for i, want := range map[int]Active{
		0:  {},
		1:  {Variables: []string{"q", "p"}},
		3:  {Constants: []string{"wff", "|-"}, Variables: []string{"q", "p"}, Hyps: []api.Hyp{wq}},
		7:  {Constants: []string{"wff", "|-"}, Variables: []string{"q", "p", "r"}, Hyps: []api.Hyp{wq, m}, Apart: all, Depth: 1},
		11: {Constants: []string{"wff", "|-"}, Variables: []string{"q", "p", "r"}, Hyps: []api.Hyp{wq, m, wp, n}, Apart: all, Depth: 2},
		12: {Constants: []string{"wff", "|-"}, Variables: []string{"q", "p", "r"}, Hyps: []api.Hyp{wq, m}, Apart: all, Depth: 1},
		15: {Constants: []string{"wff", "|-", "x"}, Variables: []string{"q", "p"}, Hyps: []api.Hyp{wq}},
	} {
		if a, e := At(l, i); e != api.OK || !sameActive(a, want) {
			t.Errorf("At of %d: %v, %d, want %v", i, a, e, want)
		}
	}
	a, _ := At(l, 3)
	a.Constants[0], a.Variables[0], a.Hyps[0].Text[0] = "changed", "changed", "changed"
	if b, _ := At(l, 3); b.Constants[0] != "wff" || b.Variables[0] != "q" || b.Hyps[0].Text[0] != "wff" {
		t.Errorf("At shares memory with the statements: %v", b)
	}
}

// P4.1: the errors of At, in their order.
func TestAtErrors(t *testing.T) {
	flat := slices.Repeat([]api.Statement{{Kind: api.Open}, {Kind: api.Close}}, api.MaxStatements/2+1)
	wrong := append([]api.Statement{{}}, flat...)
	l := parse(t, "$c x $. ${ $} $} $c x $.")
	for name, x := range map[string]struct {
		l []api.Statement
		i int
		e api.Errno
	}{
		"below 0":               {l, -1, api.ErrRange},
		"behind the end":        {l, 6, api.ErrRange},
		"far behind the end":    {nil, api.MaxStatements + 1, api.ErrRange},
		"nothing":               {nil, 0, api.OK},
		"the first error":       {l, 5, ErrScopes},
		"ahead of the error":    {l, 3, api.OK},
		"an open scope":         {l, 2, api.OK},
		"the most statements":   {flat, api.MaxStatements, api.OK},
		"too many statements":   {flat, api.MaxStatements + 1, api.ErrFull},
		"too many, one wrong":   {wrong, api.MaxStatements + 1, api.ErrFull},
		"one wrong":             {wrong, api.MaxStatements, api.ErrForm},
		"ahead of a wrong one":  {wrong, 0, api.OK},
		"behind a broken rule":  {parse(t, base+"$d p $. $}"), 5, ErrDisjoint},
		"at the broken rule":    {parse(t, base+"$d p $. $}"), 3, api.OK},
		"a symbol of no active": {parse(t, "a $a x $."), 1, ErrActive},
	} {
		a, e := At(x.l, x.i)
		if e != x.e || e != api.OK && !sameActive(a, Active{}) {
			t.Errorf("%s: %v, %d, want %d", name, a, e, x.e)
		}
	}
}

// P4.1: pairs of words.
func TestPairs(t *testing.T) {
	for _, x := range []struct{ l, want string }{{"", ""}, {"p", ""}, {"p p p", ""}, {"q p q r", "pq pr qr"}, {"b a", "ab"}, {"a A", "Aa"}} {
		var s []string
		l := strings.Fields(x.l)
		for _, p := range Pairs(l) {
			s = append(s, p.A+p.B)
		}
		if strings.Join(s, " ") != x.want || strings.Join(l, " ") != x.l {
			t.Errorf("Pairs of %q: %q", x.l, s)
		}
	}
	if l := Pairs([]string{"b", "", "\x80"}); !slices.Equal(l, []api.Pair{{A: "", B: "b"}, {A: "", B: "\x80"}, {A: "b", B: "\x80"}}) {
		t.Errorf("Pairs of any words: %v", l)
	}
}

// P4.1: unions of any pairs.
func TestJoin(t *testing.T) {
	a := []api.Pair{{A: "z", B: "a"}, {A: "b", B: "b"}, {A: "b", B: "c"}, {A: "b", B: "c"}}
	b := []api.Pair{{A: "b", B: "a"}, {A: "z", B: "a"}, {A: "", B: "x"}}
	want := []api.Pair{{A: "", B: "x"}, {A: "b", B: "a"}, {A: "b", B: "b"}, {A: "b", B: "c"}, {A: "z", B: "a"}}
	if l := Join(a, b); !slices.Equal(l, want) || !slices.Equal(Join(b, a), want) || a[0].A != "z" || b[0].A != "b" {
		t.Errorf("Join: %v", l)
	}
	if len(Join(nil, nil)) != 0 || len(Join(nil, a)) != 3 || len(Join(a, nil)) != 3 {
		t.Errorf("Join with nothing")
	}
}

// P4.1: partners of scopes.
func TestScope(t *testing.T) {
	var l []api.Statement
	for _, k := range []int{api.Close, api.Open, api.Open, 0, api.Close, -5, api.Open, api.Close, api.Close, api.Close, api.Open} {
		l = append(l, api.Statement{Kind: k, Label: "$"})
	}
	for i, want := range map[int]struct {
		j int
		e api.Errno
	}{-1: {0, api.ErrRange}, 11: {0, api.ErrRange}, 0: {0, api.ErrNone}, 1: {8, api.OK}, 2: {4, api.OK}, 3: {0, api.ErrArg}, 4: {2, api.OK}, 5: {0, api.ErrArg}, 6: {7, api.OK}, 7: {6, api.OK}, 8: {1, api.OK}, 9: {0, api.ErrNone}, 10: {0, api.ErrNone}} {
		if j, e := Scope(l, i); j != want.j || e != want.e {
			t.Errorf("Scope of %d: %d, %d", i, j, e)
		}
	}
	if _, e := Scope(nil, 0); e != api.ErrRange {
		t.Errorf("Scope of nothing: %d", e)
	}
	deep := slices.Repeat([]api.Statement{{Kind: api.Open}}, 5000)
	if j, e := Scope(append(deep, slices.Repeat([]api.Statement{{Kind: api.Close}}, 5000)...), 0); j != 9999 || e != api.OK {
		t.Errorf("Scope of a deep one: %d, %d", j, e)
	}
}

// P4.1: labels of any statements.
func TestLabels(t *testing.T) {
	var l []api.Statement
	for k := -1; k <= 10; k++ {
		l = append(l, api.Statement{Kind: k, Label: string(rune('a' + k))})
	}
	if s := strings.Join(Labels(l), ""); s != "degh" || len(Labels(nil)) != 0 {
		t.Errorf("Labels: %q", s)
	}
	if s := Labels([]api.Statement{{Kind: api.Axiom}, {Kind: api.Theorem, Label: "$"}}); !slices.Equal(s, []string{"", "$"}) {
		t.Errorf("Labels: %q", s)
	}
}

// P4.1: a broken rule is an error with a place, and its code is found in it.
func TestBroken(t *testing.T) {
	_, err := run(parse(t, "$c a $. $}"))
	var b broken
	if !errors.As(err, &b) || b.at != 1 || !errors.Is(err, ErrScopes) || err.Error() != "statement 1: 67" {
		t.Errorf("the error: %v", err)
	}
}

// random returns statements of few names, most of which keep the rules.
func random(r *rand.Rand, most int) []api.Statement {
	l := []api.Statement{{Kind: api.Constants, Text: []string{"c", "d"}}}
	choose := func(s string) string { return string(s[r.Intn(len(s))]) }
	for range r.Intn(most + 1) {
		s := api.Statement{Kind: 1 + r.Intn(9)}
		switch s.Kind {
		case api.Constants:
			s.Text = []string{choose("fgx")}
		case api.Variables:
			s.Text = []string{choose("xyz")}
		case api.Floating:
			s.Text = []string{choose("ccd"), choose("xyz")}
		case api.Disjoint:
			s.Text = []string{choose("xyz"), choose("xyz")}
		case api.Essential, api.Axiom, api.Theorem:
			s.Text = []string{choose("cccx"), choose("cxyz"), choose("dxy")}
		}
		switch s.Kind {
		case api.Floating, api.Essential, api.Axiom, api.Theorem:
			s.Label = choose("ijklmnopqrstuvwx")
		}
		more := append(slices.Clone(l), s)
		if _, e := At(more, len(more)); e == api.OK || r.Intn(20) == 0 {
			l = more
		}
	}
	return l
}

// right returns statements without an error, closed at the end.
func right(r *rand.Rand, most int) []api.Statement {
	for {
		l := random(r, most)
		for depth(l) > 0 {
			l = append(l, api.Statement{Kind: api.Close})
		}
		if _, e := Check(l); e == api.OK {
			return l
		}
	}
}

func depth(l []api.Statement) int {
	n := 0
	for _, s := range l {
		switch s.Kind {
		case api.Open:
			n++
		case api.Close:
			n--
		}
	}
	return n
}
