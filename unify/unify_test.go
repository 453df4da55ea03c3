package unify

import (
	"slices"
	"strconv"
	"strings"
	"testing"

	"apodixis/api"
	"apodixis/syntax"
)

// P18.1: the document's examples, and others by hand.
func TestUnify(t *testing.T) {
	db := database(t, logic)
	for _, x := range []struct {
		a, b, want string
		e          api.Errno
	}{
		{"", "", "", api.OK},
		{"wi(&wff.0,wph)", "wi(wps,&wff.1)", "&wff.0=wps &wff.1=wph", api.OK},
		{"&wff.0", "&wff.3", "&wff.3=&wff.0", api.OK},
		{"&wff.3", "&wff.0", "&wff.0=&wff.3", api.OK},
		{"&wff.0", "&wff.0", "", api.OK},
		{"&wff.0", "wi(&wff.0,wph)", "", ErrOccurs},
		{"wph", "wph", "", api.OK},
		{"wph", "wps", "", ErrClash},
		{"tru", "wph", "", ErrClash},
		{"&wff.0 &wff.1", "&wff.1 &wff.2", "&wff.1=&wff.0 &wff.2=&wff.0", api.OK},
		{"&wff.0 &wff.1", "&wff.1 wph", "&wff.0=wph &wff.1=wph", api.OK},
		{"wi(&wff.0,&wff.1)", "wi(&wff.1,wn(&wff.0))", "", ErrOccurs},
		{"wi(&wff.0,&wff.1) wi(wph,wph)", "wi(&wff.1,wn(&wff.0)) wi(wph,wn(wph))", "", ErrClash},
		{"&wff.0 wi(wph,&wff.0)", "wi(&wff.0,wph) wi(wps,&wff.0)", "", ErrClash},
		{"wal(&wff.0,&set.0)", "wal(wn(&wff.1),vx)", "&wff.0=wn(&wff.1) &set.0=vx", api.OK},
		{"wi(&wff.1,wi(&wff.2,&wff.3))", "wi(wi(&wff.2,&wff.2),wi(&wff.3,wph))", "&wff.1=wi(wph,wph) &wff.2=wph &wff.3=wph", api.OK},
		{"&wff.00", "wph", "", api.ErrForm}, {"&wff", "wph", "", api.ErrForm}, {"&class.0", "wph", "", api.ErrForm}, {"&wff.0(wph)", "wph", "", api.ErrForm}, {"&wff.1000000001", "wph", "", api.ErrForm},
		{"&wff.1000000000", "wph", "&wff.1000000000=wph", api.OK},
		{"&set.0", "wph", "", api.ErrType}, {"vx", "wph", "", api.ErrType}, {"&set.0", "&wff.0", "", api.ErrType}, {"wi(&set.0,wph)", "wph", "", api.ErrType},
		{"wph wi(wph,vx)", "vx wph", "", api.ErrType}, {"wph wi(wph)", "vx wph", "", api.ErrForm}, {"wi(wph,vx) x", "wph wph", "", api.ErrType}, {"wph x", "wi(wph,vx) wph", "", api.ErrType},
		{"wi(vx,wi(wph))", "wph", "", api.ErrForm}, {"ax5", "wph", "", api.ErrForm},
	} {
		l, e := Unify(db, trees(x.a), trees(x.b))
		if e != x.e || subs(l) != x.want {
			t.Errorf("%s with %s: %s, %d, want %s, %d", x.a, x.b, subs(l), e, x.want, x.e)
		}
	}
}

// chain returns a tree of n nodes with one kid each, down to the last one.
func chain(n int, last string) api.Tree {
	t := api.Tree{Label: last}
	for range n - 1 {
		t = api.Tree{Label: "wn", Kids: []api.Tree{t}}
	}
	return t
}

// wide returns a tree of n nodes whose leaves have a label.
func wide(n int, label string) api.Tree {
	if n == 1 {
		return api.Tree{Label: label}
	}
	if n%2 == 0 {
		return api.Tree{Label: "wn", Kids: []api.Tree{wide(n-1, label)}}
	}
	half := (n - 1) / 2
	return api.Tree{Label: "wi", Kids: []api.Tree{wide(half, label), wide(n-1-half, label)}}
}

// P18.1: the errors of trees, for all functions with a database, in their order.
func TestErrorsOfTrees(t *testing.T) {
	db := database(t, logic)
	shared := tree("wph")
	for range 80 {
		shared = api.Tree{Label: "wi", Kids: []api.Tree{shared, shared}}
	}
	many := api.Tree{Label: "wn", Kids: make([]api.Tree, api.MaxNodes)}
	for name, x := range map[string]struct {
		db   api.Database
		t    api.Tree
		want api.Errno
	}{
		"right":                     {db, wide(4000, "wph"), api.OK},
		"a work variable":           {db, tree("&wff.0"), api.OK},
		"a wrong database":          {api.Database{Frames: []api.Frame{{}}}, many, api.ErrForm},
		"an unsettled one":          {api.Database{Constants: []string{"c"}, Variables: []string{"x"}}, many, api.ErrState},
		"too many nodes":            {db, many, api.ErrLarge},
		"too many, and too deep":    {db, chain(4001, "x"), api.ErrLarge},
		"two to the 80th":           {db, shared, api.ErrLarge},
		"very deep":                 {db, chain(300000, "wph"), api.ErrLarge},
		"100 deep":                  {db, chain(100, "wph"), api.OK},
		"101 deep":                  {db, chain(101, "wph"), api.ErrDepth},
		"101 deep, no label":        {db, chain(101, "x"), api.ErrDepth},
		"no label":                  {db, tree("wi(wph,x)"), api.ErrForm},
		"no label, another sort":    {db, tree("wi(vx,x)"), api.ErrForm},
		"a kid too few":             {db, tree("wi(vx)"), api.ErrForm},
		"a kid too many":            {db, tree("wn(vx,vx)"), api.ErrForm},
		"a variable's kid":          {db, tree("wph(wph)"), api.ErrForm},
		"another sort":              {db, tree("wn(vx)"), api.ErrType},
		"another sort, far below":   {db, tree("wi(wph,wi(wph,wal(vx,vx)))"), api.ErrType},
		"a work variable's sort":    {db, tree("wn(&set.3)"), api.ErrType},
		"a sort that is none":       {db, tree("&|-.3"), api.ErrForm},
		"an empty tree":             {db, api.Tree{}, api.ErrForm},
		"an empty database":         {api.Database{}, tree("&wff.0"), api.ErrForm},
		"an empty one, and no tree": {api.Database{}, api.Tree{}, api.ErrForm},
	} {
		if s, e := Sort(x.db, x.t); e != x.want || (s == "wff") != (e == api.OK) {
			t.Errorf("%s: Sort: %q, %d, want %d", name, s, e, x.want)
		}
		one := []api.Tree{x.t}
		if l, e := Unify(x.db, one, one); e != x.want || e != api.OK && l != nil {
			t.Errorf("%s: Unify: %v, %d, want %d", name, l, e, x.want)
		}
		if l, e := Match(x.db, x.t, x.t); e != x.want || e != api.OK && l != nil {
			t.Errorf("%s: Match: %v, %d, want %d", name, l, e, x.want)
		}
		l, e := Apart(x.db, []Sub{{"?", tree("wph")}, {"?", x.t}}, []api.Pair{{A: "wn", B: "wn"}})
		if want := x.want; want == api.OK && e != api.ErrForm || want != api.OK && e != want || l != nil {
			t.Errorf("%s: Apart: %v, %d, want %d", name, l, e, x.want)
		}
		if x.want == api.OK || len(x.db.Frames) < 2 {
			continue
		}
		vx, wph := []api.Tree{tree("vx")}, tree("wph")
		if _, e := Unify(x.db, one, vx); e != x.want {
			t.Errorf("%s: Unify with another sort: %d, want %d", name, e, x.want)
		}
		if _, e := Unify(x.db, []api.Tree{wph, wph}, []api.Tree{vx[0], x.t}); e != x.want {
			t.Errorf("%s: Unify behind another sort: %d, want %d", name, e, x.want)
		}
		if _, e := Match(x.db, vx[0], x.t); e != x.want {
			t.Errorf("%s: Match of another sort: %d, want %d", name, e, x.want)
		}
	}
	if _, e := Match(db, tree("x"), chain(101, "wph")); e != api.ErrForm {
		t.Errorf("two wrong trees: %d", e)
	}
	if _, e := Unify(db, []api.Tree{tree("wph"), tree("x")}, []api.Tree{chain(101, "x"), tree("wph")}); e != api.ErrDepth {
		t.Errorf("two wrong trees: %d", e)
	}
}

// P18.1: lists of different lengths, and too long ones, ahead of everything else.
func TestUnifySizes(t *testing.T) {
	db := database(t, logic)
	row := func(n int) []api.Tree { return slices.Repeat([]api.Tree{{Label: "x"}}, n) }
	for _, x := range []struct {
		db   api.Database
		a, b []api.Tree
		want api.Errno
	}{
		{db, row(1), nil, api.ErrSize}, {db, nil, row(1), api.ErrSize}, {db, row(5001), row(5001), api.ErrSize}, {db, row(5000), row(5000), api.ErrForm},
		{db, row(5001), row(5000), api.ErrSize}, {api.Database{Frames: make([]api.Frame, 1)}, row(1), nil, api.ErrSize}, {db, nil, nil, api.OK}, {api.Database{}, nil, nil, api.OK},
	} {
		if l, e := Unify(x.db, x.a, x.b); e != x.want || l != nil {
			t.Errorf("%d and %d trees: %v, %d, want %d", len(x.a), len(x.b), l, e, x.want)
		}
	}
	var a, b []api.Tree
	for i := range 5000 {
		a = append(a, tree("&wff."+strconv.Itoa(i)))
		b = append(b, tree("&wff."+strconv.Itoa(i+1)))
	}
	l, e := Unify(db, a, b)
	if e != api.OK || len(l) != 5000 || subs(l[:2]) != "&wff.1=&wff.0 &wff.2=&wff.0" || written(l[4999].Tree) != "&wff.0" {
		t.Errorf("a row of work variables: %d, %d", len(l), e)
	}
	// Each one is the next one with a sign more: values that are too deep, and a circle of 5000.
	for i := range b {
		b[i] = api.Tree{Label: "wn", Kids: []api.Tree{b[i]}}
	}
	if l, e := Unify(db, a, b); e != api.ErrLarge || l != nil {
		t.Errorf("a row of signs: %v, %d", l, e)
	}
	if l, e := Unify(db, a[:3999], b[:3999]); e != api.ErrDepth || l != nil {
		t.Errorf("a shorter row of signs: %v, %d", l, e)
	}
	b[4999].Kids[0] = a[0]
	if l, e := Unify(db, a, b); e != ErrOccurs || l != nil {
		t.Errorf("a circle: %v, %d", l, e)
	}
}

// P18.1: values up to their limits, the size of all of them ahead of the depth.
func TestUnifyLimits(t *testing.T) {
	db := database(t, logic)
	for name, x := range map[string]struct {
		a, b []api.Tree
		want api.Errno
	}{
		"4000 nodes":              {[]api.Tree{tree("&wff.0"), tree("&wff.1")}, []api.Tree{tree("wi(&wff.1,&wff.1)"), wide(1999, "wph")}, api.OK},
		"as many, and a sign":     {[]api.Tree{tree("&wff.0"), tree("&wff.1")}, []api.Tree{tree("wn(wi(&wff.1,&wff.1))"), wide(1999, "wph")}, api.OK},
		"4001 nodes":              {[]api.Tree{tree("&wff.0"), tree("&wff.1")}, []api.Tree{tree("wi(&wff.1,&wff.1)"), wide(2000, "wph")}, api.ErrLarge},
		"4001, but of no value":   {[]api.Tree{tree("wi(&wff.1,&wff.1)"), tree("&wff.1")}, []api.Tree{tree("wi(&wff.1,&wff.1)"), wide(2000, "wph")}, api.OK},
		"100 deep":                {[]api.Tree{tree("&wff.0"), tree("&wff.1")}, []api.Tree{chain(50, "&wff.1"), chain(51, "wph")}, api.OK},
		"101 deep":                {[]api.Tree{tree("&wff.0"), tree("&wff.1")}, []api.Tree{chain(50, "&wff.1"), chain(52, "wph")}, api.ErrDepth},
		"101 deep, but of none":   {[]api.Tree{chain(50, "&wff.1"), tree("&wff.1")}, []api.Tree{chain(50, "&wff.1"), chain(52, "wph")}, api.OK},
		"one deep, one too large": {[]api.Tree{tree("&wff.0"), tree("&wff.1"), tree("&wff.2")}, []api.Tree{chain(50, "&wff.1"), chain(52, "wph"), wide(1999, "&wff.1")}, api.ErrLarge},
		"and a circle":            {[]api.Tree{tree("&wff.0"), tree("&wff.1"), tree("&wff.2")}, []api.Tree{chain(50, "&wff.1"), chain(52, "wph"), tree("wn(&wff.2)")}, ErrOccurs},
	} {
		l, e := Unify(db, x.a, x.b)
		if e != x.want || e != api.OK && l != nil {
			t.Errorf("%s: %d values, %d, want %d", name, len(l), e, x.want)
		}
	}
	// Each value has twice the size of the next one.
	var a, b []api.Tree
	for i := range 60 {
		next := "&wff." + strconv.Itoa(i+1)
		a, b = append(a, tree("&wff."+strconv.Itoa(i))), append(b, tree("wi("+next+","+next+")"))
	}
	if l, e := Unify(db, a, b); e != api.ErrLarge || l != nil {
		t.Errorf("two to the 60th: %v, %d", l, e)
	}
	if l, e := Unify(db, append(a, a...), append(b, b...)); e != api.ErrLarge || l != nil {
		t.Errorf("all of them twice: %v, %d", l, e)
	}
	if l, e := Unify(db, a[:11], b[:11]); e != api.ErrLarge || l != nil {
		t.Errorf("4095 nodes: %v, %d", l, e)
	}
	if l, e := Unify(db, a[:10], b[:10]); e != api.OK || len(l) != 10 {
		t.Errorf("2047 nodes: %d, %d", len(l), e)
	}
}

// P18.1 and P18.4: matching by hand.
func TestMatch(t *testing.T) {
	db := database(t, logic)
	for _, x := range []struct {
		pattern, tree, want string
		e                   api.Errno
	}{
		{"wi(wph,wph)", "wi(wps,wch)", "", ErrClash},
		{"wi(wph,wps)", "wi(wps,wph)", "wph=wps wps=wph", api.OK},
		{"wph", "wph", "wph=wph", api.OK},
		{"&wff.0", "wn(&wff.0)", "&wff.0=wn(&wff.0)", api.OK},
		{"wn(tru)", "wn(&wff.0)", "", ErrClash},
		{"wn(tru)", "wn(tru)", "", api.OK},
		{"tru", "wph", "", ErrClash},
		{"wal(wph,vx)", "wal(wi(wph,&wff.1),zero)", "wph=wi(wph,&wff.1) vx=zero", api.OK},
		{"wal(wph,zero)", "wal(wph,vx)", "", ErrClash},
		{"vx", "wph", "", api.ErrType},
		{"&set.0", "wph", "", api.ErrType},
		{"wi(&wff.0,&wff.0)", "wi(wn(wph),wn(wph))", "&wff.0=wn(wph)", api.OK},
	} {
		l, e := Match(db, tree(x.pattern), tree(x.tree))
		if e != x.e || subs(l) != x.want {
			t.Errorf("%s to %s: %s, %d, want %s, %d", x.pattern, x.tree, subs(l), e, x.want, x.e)
		}
	}
}

// P18.1: labels of work variables.
func TestWork(t *testing.T) {
	for _, x := range []struct {
		sort string
		n    int
		want string
		e    api.Errno
	}{
		{"wff", 0, "&wff.0", api.OK}, {"wff", 1000000000, "&wff.1000000000", api.OK}, {"a.7", 12, "&a.7.12", api.OK}, {".", 1, "&..1", api.OK}, {"&", 1, "&&.1", api.OK},
		{"", 0, "", api.ErrForm}, {"", -1, "", api.ErrForm}, {"wff", -1, "", api.ErrRange}, {"wff", 1000000001, "", api.ErrRange},
	} {
		s, e := Work(x.sort, x.n)
		if s != x.want || e != x.e {
			t.Errorf("%q, %d: %q, %d, want %q, %d", x.sort, x.n, s, e, x.want, x.e)
		}
		if sort, n, ok := IsWork(s); e == api.OK && (sort != x.sort || n != x.n || !ok) {
			t.Errorf("%q: %q, %d, %t", s, sort, n, ok)
		}
	}
	for _, s := range []string{"", "&", "&.", "&.1", "&wff", "&wff.", "&wff.01", "&wff.+1", "&wff.-1", "&wff.-0", "&wff.1 ", "&wff. 1", "&wff.1a", "&wff.1000000001", "&wff.99999999999999999999", "wff.1", "x&wff.1", "&wff.1.", "&wff.0x1", "&wff.1_0", "&wff.٣"} {
		if sort, n, ok := IsWork(s); sort != "" || n != 0 || ok {
			t.Errorf("%q: %q, %d, %t", s, sort, n, ok)
		}
	}
	if l := Works(tree("wi(&wff.2,&set.0(&wff.7),&.1,&x.1,&wff.2,wph,&wff.0)")); strings.Join(l, " ") != "&wff.2 &wff.7 &x.1 &wff.0" {
		t.Errorf("%q", l)
	}
	if l := Works(api.Tree{}); l != nil {
		t.Errorf("of nothing: %q", l)
	}
	if l := Works(chain(300000, "&wff.5")); !slices.Equal(l, []string{"&wff.5"}) {
		t.Errorf("very deep: %q", l)
	}
}

// P18.1: Apply to any trees, and its limits.
func TestApply(t *testing.T) {
	for _, x := range []struct{ tree, subs, want string }{
		{"a(b,c(b))", "b=d(b)", "a(d(b),c(d(b)))"}, {"a(b)", "a=x", "a(b)"}, {"a(b)", "b=c c=d", "a(c)"}, {"a(b)", "b=c b=d", "a(c)"}, {"a", "a=b(a,a)", "b(a,a)"}, {"a(a)", "a=b", "a(b)"}, {"a(b)", "", "a(b)"},
	} {
		if got, e := Apply(tree(x.tree), readSubs(x.subs)); e != api.OK || written(got) != x.want {
			t.Errorf("%s by %s: %s, %d, want %s", x.tree, x.subs, written(got), e, x.want)
		}
	}
	if got, e := Apply(api.Tree{}, []Sub{{"", tree("a")}}); e != api.OK || written(got) != "a" {
		t.Errorf("an empty label: %s, %d", written(got), e)
	}
	half := wide(2047, "x") // 1024 leaves
	for name, x := range map[string]struct {
		t    api.Tree
		l    []Sub
		want api.Errno
	}{
		"4000 nodes":               {wide(4000, "x"), nil, api.OK},
		"4001 nodes":               {wide(4001, "x"), nil, api.ErrLarge},
		"4000 nodes by parts":      {tree("a(b,b)"), []Sub{{"b", wide(1999, "x")}, {"b", wide(4000, "x")}}, api.OK},
		"4001 nodes by parts":      {tree("a(b,b)"), []Sub{{"b", wide(2000, "x")}}, api.ErrLarge},
		"large parts, but absent":  {tree("a(b,b)"), []Sub{{"c", wide(9000, "x")}, {"a", wide(9000, "x")}}, api.OK},
		"leaves for leaves":        {half, []Sub{{"x", tree("y")}}, api.OK},
		"larger leaves":            {half, []Sub{{"x", tree("y(z)")}}, api.OK},
		"too large leaves":         {half, []Sub{{"x", tree("y(z,z)")}}, api.ErrLarge},
		"100 deep":                 {chain(50, "x"), []Sub{{"x", chain(51, "x")}}, api.OK},
		"101 deep":                 {chain(50, "x"), []Sub{{"x", chain(52, "x")}}, api.ErrDepth},
		"101 deep, and large":      {half, []Sub{{"x", chain(101, "x")}}, api.ErrLarge},
		"very deep":                {chain(300000, "x"), nil, api.ErrLarge},
		"very deep by a part":      {tree("x"), []Sub{{"x", chain(300000, "x")}}, api.ErrLarge},
		"4000 deep":                {chain(4000, "x"), nil, api.ErrDepth},
		"a great one becomes less": {wide(4001, "x"), []Sub{{"x", tree("y")}}, api.ErrLarge},
	} {
		got, e := Apply(x.t, x.l)
		if e != x.want || e != api.OK && !syntax.Equal(got, api.Tree{}) || e == api.OK && written(got) != written(apply(x.t, x.l)) {
			t.Errorf("%s: %d, want %d", name, e, x.want)
		}
	}
	shared := api.Tree{Label: "x"}
	for range 80 {
		shared = api.Tree{Label: "y", Kids: []api.Tree{shared, shared}}
	}
	if _, e := Apply(shared, nil); e != api.ErrLarge {
		t.Errorf("two to the 80th: %d", e)
	}
}

// P18.1 and P18.6: assertions with work variables.
func TestFresh(t *testing.T) {
	db := database(t, logic)
	for _, x := range []struct {
		i, from           int
		hyps, goal, works string
		e                 api.Errno
	}{
		{a1, 5, "", "wi(&wff.5,wi(&wff.6,&wff.5))", "wph=&wff.5 wps=&wff.6", api.OK},
		{mp, 0, "&wff.0 wi(&wff.0,&wff.1)", "&wff.1", "wph=&wff.0 wps=&wff.1", api.OK},
		{ax5, 7, "", "wi(&wff.7,wal(&wff.7,&set.8))", "wph=&wff.7 vx=&set.8", api.OK},
		{isTrue, 1000000000, "", "tru", "", api.OK},
		{1, 3, "", "wi(&wff.3,&wff.4)", "wph=&wff.3 wps=&wff.4", api.OK},
		{4, 3, "", "zero", "", api.OK},
		{a1, 999999999, "", "wi(&wff.999999999,wi(&wff.1000000000,&wff.999999999))", "wph=&wff.999999999 wps=&wff.1000000000", api.OK},
		{a1, 1000000000, "", "", "", api.ErrRange}, {a1, -1, "", "", "", api.ErrRange}, {a1, 1000000001, "", "", "", api.ErrRange}, {isTrue, -1, "", "", "", api.ErrRange}, {isTrue, 1000000001, "", "", "", api.ErrRange}, {a1, 1<<63 - 1, "", "", "", api.ErrRange},
		{count, -1, "", "", "", api.ErrNone}, {-1, -1, "", "", "", api.ErrNone},
	} {
		hyps, goal, works, e := Fresh(db, x.i, x.from)
		var l []string
		for _, h := range hyps {
			l = append(l, written(h))
		}
		if e != x.e || strings.Join(l, " ") != x.hyps || written(goal) != x.goal || subs(works) != x.works {
			t.Errorf("%d from %d: %q, %s, %s, %d", x.i, x.from, l, written(goal), subs(works), e)
		}
	}
	for i, f := range db.Frames {
		hyps, goal, works, e := Fresh(db, i, 40)
		var back []Sub
		for _, s := range works {
			back = append(back, Sub{s.Tree.Label, tree(s.Label)})
		}
		if f.Text[0] == "|-" || f.Text[0] == "wff" || f.Text[0] == "set" {
			want, _ := syntax.Tree(db, f.Text)
			if got, _ := Apply(goal, back); e != api.OK || !syntax.Equal(got, want) {
				t.Errorf("%s: %s, %d, want %s", f.Label, written(got), e, written(want))
			}
		}
		essential := slices.DeleteFunc(slices.Clone(f.Hyps), func(h api.Hyp) bool { return h.Floating })
		for j, h := range hyps {
			want, _ := syntax.Tree(db, essential[j].Text)
			if got, _ := Apply(h, back); !syntax.Equal(got, want) {
				t.Errorf("%s: %s, want %s", essential[j].Label, written(got), written(want))
			}
		}
	}
}

// P18.1: the errors of the formulas of an assertion, the hypotheses ahead of it.
func TestFreshErrors(t *testing.T) {
	const start = "$c wff |- ( ) -> = $. $v p q $. wp $f wff p $. wq $f wff q $. wi $a wff ( p -> q ) $. two $a wff p q $. "
	for name, x := range map[string]struct {
		db   api.Database
		want api.Errno
	}{
		"right":                   {database(t, start+"${ h $e |- p $. a $a |- q $. $}"), api.OK},
		"no formula":              {database(t, start+"${ h $e |- p $. a $a |- ( $. $}"), syntax.ErrParse},
		"another typecode":        {database(t, start+"${ h $e |- p $. a $a = p $. $}"), api.ErrType},
		"several trees":           {database(t, start+"${ h $e |- p q p $. a $a = p $. $}"), syntax.ErrAmbiguous},
		"the hypothesis, no tree": {database(t, start+"${ h $e |- ( $. i $e |- p q p $. a $a |- p $. $}"), syntax.ErrParse},
		"the second hypothesis":   {database(t, start+"${ h $e |- p $. i $e = p $. a $a |- ( $. $}"), api.ErrType},
	} {
		hyps, goal, works, e := Fresh(x.db, 2, 0)
		if e != x.want || e != api.OK && (hyps != nil || works != nil || !syntax.Equal(goal, api.Tree{})) {
			t.Errorf("%s: %v, %v, %v, %d, want %d", name, hyps, goal, works, e, x.want)
		}
		if _, _, _, e := Fresh(x.db, 2, -1); e != api.ErrRange {
			t.Errorf("%s, out of range: %d", name, e)
		}
	}
	for want, db := range map[api.Errno]api.Database{api.ErrForm: {Frames: make([]api.Frame, 1)}, api.ErrNone: {}} {
		if hyps, goal, works, e := Fresh(db, 0, -1); e != want || hyps != nil || works != nil || !syntax.Equal(goal, api.Tree{}) {
			t.Errorf("%v, %v, %v, %d, want %d", hyps, goal, works, e, want)
		}
	}
}

// P18.1: what pairs require, by hand, and the errors in their order.
func TestApart(t *testing.T) {
	db := database(t, logic)
	for _, x := range []struct {
		subs, pairs, want string
		e                 api.Errno
	}{
		{"", "", "", api.OK},
		{"", "wph/vx", "vx/wph", api.OK},
		{"", "vx/vx", "", api.ErrApart},
		{"", "&set.0/&set.0", "&set.0/&set.0", api.OK},
		{"wph=wi(wps,&wff.0)", "wph/vx", "&wff.0/vx vx/wps", api.OK},
		{"wph=wal(wps,vx)", "wph/vx", "", api.ErrApart},
		{"wph=wal(wps,vx)", "wph/vy", "vx/vy vy/wps", api.OK},
		{"wph=tru", "wph/vx wph/wph", "", api.OK},
		{"wph=tru wph=vx", "wph/vx", "", api.OK},
		{"vx=vy vy=vx", "vx/wph vy/wph", "vx/wph vy/wph", api.OK},
		{"&wff.0=wi(&wff.1,&wff.1) &wff.1=wph", "&wff.0/&wff.1", "&wff.1/wph", api.OK},
		{"wph=&wff.0 wps=&wff.0", "wph/wps", "&wff.0/&wff.0", api.OK},
		{"", "wi/vx", "", api.ErrForm}, {"", "vx/tru", "", api.ErrForm}, {"", "x/vx", "", api.ErrForm}, {"", "vx/", "", api.ErrForm}, {"", "&class.0/vx", "", api.ErrForm}, {"tru=vx", "tru/vx", "", api.ErrForm},
		{"", "wi/vx vx/vx", "", api.ErrForm}, {"", "vx/vx wi/vx", "", api.ErrApart},
		{"wph=wi(vx)", "wi/vx", "", api.ErrForm}, {"wph=wn(vx)", "wi/vx", "", api.ErrType}, {"x=wn(vx) y=x", "", "", api.ErrType},
	} {
		var pairs []api.Pair
		for _, s := range strings.Fields(x.pairs) {
			a, b, _ := strings.Cut(s, "/")
			pairs = append(pairs, api.Pair{A: a, B: b})
		}
		got, e := Apart(db, readSubs(x.subs), pairs)
		var l []string
		for _, p := range got {
			l = append(l, p.A+"/"+p.B)
		}
		if e != x.e || strings.Join(l, " ") != x.want {
			t.Errorf("%s by %q: %q, %d, want %q, %d", x.pairs, x.subs, l, e, x.want, x.e)
		}
	}
}

// P18.1: no argument is changed, nor what stands behind a list, and results are new.
func TestMemory(t *testing.T) {
	db := database(t, logic)
	a := append(make([]api.Tree, 0, 9), tree("wi(&wff.0,&wff.1)"))
	b := append(make([]api.Tree, 0, 9), tree("wi(wn(wph),wn(wph))"))
	before := written(a[0]) + written(b[0])
	for range 2 {
		l, _ := Unify(db, a, b)
		l[0].Tree.Kids[0].Label = "changed"
		if written(l[1].Tree) != "wn(wph)" {
			t.Errorf("two results share their memory: %s", subs(l))
		}
		m, _ := Match(db, a[0], b[0])
		m[0].Tree.Kids[0].Label = "changed"
		x, _ := Apply(a[0], []Sub{{"&wff.0", b[0]}, {"&wff.1", b[0]}})
		x.Kids[0].Kids[0].Label = "changed"
		if written(x.Kids[1]) != written(b[0]) {
			t.Errorf("two parts share their memory: %s", written(x))
		}
	}
	if written(a[0])+written(b[0]) != before || a[:2][1].Label != "" || b[:2][1].Label != "" {
		t.Errorf("arguments were changed: %v, %v", a[:2], b[:2])
	}
}
