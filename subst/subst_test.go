package subst

import (
	"slices"
	"strconv"
	"strings"
	"testing"

	"apodixis/api"
)

// binds returns the bindings that "x=a b, y=" writes.
func binds(s string) []api.Bind {
	var l []api.Bind
	for _, part := range strings.Split(s, ",") {
		if name, text, ok := strings.Cut(strings.TrimSpace(part), "="); ok {
			l = append(l, api.Bind{Var: name, Text: strings.Fields(text)})
		}
	}
	return l
}

// written is the opposite of binds.
func written(l []api.Bind) string {
	var parts []string
	for _, b := range l {
		parts = append(parts, b.Var+"="+strings.Join(b.Text, " "))
	}
	return strings.Join(parts, ", ")
}

// many returns n bindings of different variables.
func many(n int) []api.Bind {
	var l []api.Bind
	for i := range n {
		l = append(l, api.Bind{Var: "v" + strconv.Itoa(i)})
	}
	return l
}

// long returns a formula of n equal symbols.
func long(s string, n int) []string { return slices.Repeat([]string{s}, n) }

// P6.1: the errors of bindings in their order, binding by binding.
func TestCheck(t *testing.T) {
	if ErrBind != 80 {
		t.Errorf("ErrBind is %d", ErrBind)
	}
	large := api.Bind{Var: "x", Text: long("a", api.MaxFormula+1)}
	for name, x := range map[string]struct {
		l    []api.Bind
		want api.Errno
	}{
		"none":                         {nil, api.OK},
		"the most":                     {many(api.MaxHyps), api.OK},
		"one too many":                 {many(api.MaxHyps + 1), api.ErrSize},
		"too many, and an empty one":   {make([]api.Bind, api.MaxHyps+1), api.ErrSize},
		"an empty variable":            {binds("x=a, =a"), ErrBind},
		"empty and too large":          {[]api.Bind{{Text: large.Text}}, ErrBind},
		"empty twice":                  {binds("=a, =a"), ErrBind},
		"a variable twice":             {binds("x=a, y=a, x=a"), api.ErrTwice},
		"twice ahead of empty":         {binds("x=a, x=a, =a"), api.ErrTwice},
		"twice and too large":          {[]api.Bind{{Var: "x"}, large}, api.ErrTwice},
		"the largest text":             {[]api.Bind{{Var: "x", Text: long("a", api.MaxFormula)}}, api.OK},
		"a text too large":             {[]api.Bind{large}, api.ErrLarge},
		"too large ahead of empty":     {[]api.Bind{large, {}}, api.ErrLarge},
		"too large ahead of twice":     {[]api.Bind{large, {Var: "x"}}, api.ErrLarge},
		"any word may be a variable":   {binds("$=a, ( )=b"), api.OK},
		"an empty text":                {binds("x="), api.OK},
		"a symbol that is empty, too":  {[]api.Bind{{Var: "x", Text: []string{""}}}, api.OK},
		"variables of different words": {binds("x=a, X=a"), api.OK},
	} {
		if e := Check(x.l); e != x.want {
			t.Errorf("%s: %d, want %d", name, e, x.want)
		}
	}
}

// P6.1: Apply, Limited and Fits agree.
func TestApply(t *testing.T) {
	for _, x := range []struct{ text, binds, want string }{
		{"( ph -> ps )", "ph=ps, ps=ph", "( ps -> ph )"},
		{"x y x", "x=, y=x", "x"},
		{"x", "x=a, x=b", "a"},
		{"x", "x=x x", "x x"},
		{"x y", "x=y, y=z", "y z"},
		{"x y", "", "x y"},
		{"", "x=a", ""},
		{"x x x", "x=", ""},
		{"x y", "z=a", "x y"},
		{"x", "x=, x=b", ""},
	} {
		text, l, want := strings.Fields(x.text), binds(x.binds), strings.Fields(x.want)
		if got := Apply(text, l); !slices.Equal(got, want) {
			t.Errorf("Apply of %q by %q: %q", x.text, x.binds, got)
		}
		if got, e := Limited(text, l, len(want)); e != api.OK || !slices.Equal(got, want) {
			t.Errorf("Limited of %q by %q: %q, %d", x.text, x.binds, got, e)
		}
		if got, e := Limited(text, l, len(want)-1); e == api.OK || got != nil {
			t.Errorf("Limited of %q by %q to one less: %q, %d", x.text, x.binds, got, e)
		}
		if !Fits(text, l, want) || Fits(text, l, append(want, "x")) {
			t.Errorf("Fits of %q by %q", x.text, x.binds)
		}
		for i := range want {
			other := slices.Clone(want)
			other[i] += "!"
			if Fits(text, l, want[:i]) || Fits(text, l, other) {
				t.Errorf("Fits of %q by %q takes less, or another symbol %d", x.text, x.binds, i)
			}
		}
	}
	odd := []api.Bind{{Var: "", Text: []string{"a", ""}}}
	if got := Apply([]string{"", "x"}, odd); !slices.Equal(got, []string{"a", "", "x"}) {
		t.Errorf("the empty symbol: %q", got)
	}
	if got := Apply(long("x", 3), many(api.MaxHyps+1)); len(got) != 3 {
		t.Errorf("bindings that are not right: %q", got)
	}
}

// P6.1: the errors of Limited in their order, and its limits.
func TestLimited(t *testing.T) {
	l := binds("x=a b, y=")
	for _, x := range []struct {
		text       string
		most, size int
		want       api.Errno
	}{
		{"x x z", 5, 5, api.OK}, {"x x z", 4, 0, api.ErrLarge}, {"x x z", 3, 0, api.ErrLarge}, {"x x z", 6, 5, api.OK},
		{"", 0, 0, api.OK}, {"y y", 0, 0, api.OK}, {"z", 0, 0, api.ErrLarge}, {"y x y", 1, 0, api.ErrLarge},
		{"", -1, 0, api.ErrArg}, {"x", -1, 0, api.ErrArg}, {"x", -1 << 63, 0, api.ErrArg}, {"x", 1<<63 - 1, 2, api.OK},
	} {
		if got, e := Limited(strings.Fields(x.text), l, x.most); e != x.want || len(got) != x.size {
			t.Errorf("Limited of %q to %d: %q, %d", x.text, x.most, got, e)
		}
	}
	// 10^6 images of 10^6 symbols would not fit into any memory
	huge := []api.Bind{{Var: "x", Text: long("a", 1000000)}}
	if got, e := Limited(long("x", 1000000), huge, 2000000); e != api.ErrLarge || got != nil {
		t.Errorf("a huge result: %d symbols, %d", len(got), e)
	}
}

// P6.1: what Compose returns, in order, and its errors in theirs.
func TestCompose(t *testing.T) {
	for _, x := range []struct{ a, b, want string }{
		{"x=y z, y=x", "y=w, z=", "x=w, y=x, z="},
		{"", "", ""},
		{"x=a", "", "x=a"},
		{"", "y=b, x=a", "y=b, x=a"},
		{"y=x, x=y", "y=x, x=y", "y=y, x=x"},
		{"x=z y", "w=x, x=q, y=p p", "x=z p p, w=x, y=p p"},
	} {
		if c, e := Compose(binds(x.a), binds(x.b)); e != api.OK || written(c) != x.want {
			t.Errorf("Compose of %q and %q: %q, %d", x.a, x.b, written(c), e)
		}
	}
	largest := []api.Bind{{Var: "v0", Text: long("x", api.MaxFormula)}}
	too := []api.Bind{{Var: "v0", Text: long("x", api.MaxFormula+1)}}
	for name, x := range map[string]struct {
		a, b []api.Bind
		want api.Errno
		size int
	}{
		"the first one, then the second": {binds("=a"), binds("x=, x="), ErrBind, 0},
		"the second one":                 {many(api.MaxHyps), many(api.MaxHyps + 1), api.ErrSize, 0},
		"the second one's text":          {many(api.MaxHyps), too, api.ErrLarge, 0},
		"the second one is wrong":        {largest, binds("x=a b, x="), api.ErrTwice, 0},
		"the most":                       {many(api.MaxHyps - 1), binds("v1=, x="), api.OK, api.MaxHyps},
		"the same variables":             {many(api.MaxHyps), many(api.MaxHyps), api.OK, api.MaxHyps},
		"one too many":                   {many(api.MaxHyps), binds("x="), api.ErrSize, 0},
		"a text that grows too large":    {largest, binds("x=a b"), api.ErrLarge, 0},
		"a text that stays the largest":  {largest, binds("x=a"), api.OK, 2},
		"too many, and too large":        {append(slices.Clone(largest), many(api.MaxHyps)[1:]...), binds("x=a b"), api.ErrSize, 0},
		"the largest text behind":        {binds("x=a"), largest, api.OK, 2},
	} {
		if c, e := Compose(x.a, x.b); e != x.want || len(c) != x.size {
			t.Errorf("%s: %d bindings, %d, want %d", name, len(c), e, x.want)
		}
	}
}

// P6.1: Vars, each once, in the order of the formula.
func TestVars(t *testing.T) {
	for _, x := range []struct{ text, variables, want string }{
		{"y ( x y", "x y", "y x"}, {"", "x", ""}, {"x", "", ""}, {"x y z", "z z x q", "x z"}, {"X", "x", ""},
	} {
		if got := Vars(strings.Fields(x.text), strings.Fields(x.variables)); !slices.Equal(got, strings.Fields(x.want)) {
			t.Errorf("Vars of %q among %q: %q", x.text, x.variables, got)
		}
	}
	if got := Vars([]string{"a", ""}, []string{""}); !slices.Equal(got, []string{""}) {
		t.Errorf("the empty word: %q", got)
	}
}

// pairs returns the pairs that "x y, z z" writes.
func pairs(s string) []api.Pair {
	var l []api.Pair
	for _, part := range strings.Split(s, ",") {
		if a, b, ok := strings.Cut(strings.TrimSpace(part), " "); ok {
			l = append(l, api.Pair{A: a, B: b})
		}
	}
	return l
}

// P6.1: Sorted arranges, orders and takes each pair once; equal variables stay.
func TestSorted(t *testing.T) {
	for s, want := range map[string]string{
		"":                             "",
		"z a, b b, a z":                "a z, b b",
		"b c, a d, a c, b a":           "a b, a c, a d, b c",
		"x y, x y, y x":                "x y",
		"ph x, Z a, a Z, a b, aa b":    "Z a, a b, aa b, ph x",
		"b b, a a, b b":                "a a, b b",
		"x x1, x1 x, x x10, x2 x, é x": "x x1, x x10, x x2, x é",
	} {
		if got := Sorted(pairs(s)); !slices.Equal(got, pairs(want)) {
			t.Errorf("Sorted of %q: %v", s, got)
		}
	}
}

// P6.1: what a substitution requires, and the first of it that is not permitted.
func TestApart(t *testing.T) {
	const vars = "x y z u ph ps"
	for _, x := range []struct {
		binds, pairs, want string
		ok                 bool
		wide, broken       string
	}{
		{"ph=( y = y ), x=x", "ph x", "x y", true, "y x", ""},
		{"ph=( y = x ), x=x", "x ph", "x y", false, "x y, x x", "x x"},
		{"ph=( y = x ), x=x", "x ph", "x y", false, "", "x y"},
		{"ph=( A. = ), x=x", "ph x", "", true, "", ""},
		{"", "ph x", "ph x", true, "ph x", ""},
		{"", "x ph", "ph x", true, "x x", "ph x"},
		{"", "x x", "", false, "x x", "x x"},
		{"", "", "", true, "", ""},
		{"ph=x", "", "", true, "", ""},
		{"", "A. x, c d", "", true, "", ""},
		{"ph=z y, ps=u x", "ps ph", "u y, u z, x y, x z", true, "z u, u y, x z", "x y"},
		{"ph=z y, ps=u x", "ps ph", "u y, u z, x y, x z", true, "y x, u y, x z", "u z"},
		{"ph=z y, ps=u x", "ph ps", "u y, u z, x y, x z", true, "u z, z x", "u y"},
		{"ph=z y, ps=u x", "ph ps, x y", "u y, u z, x y, x z", true, "u z, z x, u y, x y", ""},
		{"ph=y, ph=x", "ph x", "x y", true, "x y", ""},
		{"ph=q, x=p", "ph x", "", true, "", ""},
		{"ph=, ps=x", "ph ps, ps y", "x y", true, "", "x y"},
		{"ph=z x z x", "ph y, y ph", "x y, y z", true, "y z", "x y"},
		{"x=y", "x y, ph x", "ph y", false, "ph y", "y y"},
	} {
		l, p, v := binds(x.binds), pairs(x.pairs), strings.Fields(vars)
		if got, ok := Apart(l, p, v); !slices.Equal(got, pairs(x.want)) || ok != x.ok {
			t.Errorf("Apart by %q of %q: %v, %t", x.binds, x.pairs, got, ok)
		}
		var want api.Pair
		if x.broken != "" {
			want = pairs(x.broken)[0]
		}
		if got, ok := Broken(l, p, v, pairs(x.wide)); got != want || ok != (x.broken != "") {
			t.Errorf("Broken by %q of %q in %q: %v, %t", x.binds, x.pairs, x.wide, got, ok)
		}
	}
	if l, ok := Apart(binds("x=a"), pairs("x y"), nil); len(l) != 0 || !ok {
		t.Errorf("Apart without variables: %v, %t", l, ok)
	}
	if p, ok := Broken(nil, pairs("x y"), nil, nil); ok || p != (api.Pair{}) {
		t.Errorf("Broken without variables: %v, %t", p, ok)
	}
}
