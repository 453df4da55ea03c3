package eliminate

import (
	"slices"
	"strings"
	"testing"

	"apodixis/api"
	"apodixis/define"
	"apodixis/frame"
	"apodixis/graph"
	"apodixis/layout"
	"apodixis/syntax"
	"apodixis/verify"
)

// database returns the database of a text.
func database(t *testing.T, s string) api.Database {
	t.Helper()
	l, _, e := layout.Parse(strings.Fields(s))
	db, at, f := frame.Database(l)
	if e != api.OK || f != api.OK {
		t.Fatalf("%q: %d, %d at %d", s, e, f, at)
	}
	return db
}

// logic has an equality, a quantifier, and syntax axioms that are defined by further statements.
const logic = `$c wff set |- ( ) -> -. <-> or and A. E! = fst dup no T. $. $v ph ps ch x y z u $.
wph $f wff ph $. wps $f wff ps $. wch $f wff ch $. vx $f set x $. vy $f set y $. vz $f set z $. vu $f set u $.
wn $a wff -. ph $. wi $a wff ( ph -> ps ) $. wb $a wff ( ph <-> ps ) $. wal $a wff A. x ph $. weq $a wff x = y $. tru $a wff T. $.
biid $a |- ( ph <-> ph ) $. wo $a wff ( ph or ps ) $. wa $a wff ( ps and ph ) $. weu $a wff E! x ph $. wfst $a wff fst ph ps $. wdup $a wff dup ph $. wno $a wff no $. `

const (
	dfor  = "df-or $a |- ( ( ph or ps ) <-> ( -. ph -> ps ) ) $. "
	dfand = "df-and $a |- ( ( ch and ps ) <-> -. ( -. ps or -. ch ) ) $. "
	dffst = "df-fst $a |- ( fst ch ph <-> ch ) $. "
	dfdup = "df-dup $a |- ( dup ps <-> ( ps -> ps ) ) $. "
	dfno  = "df-no $a |- ( no <-> -. T. ) $. "
	dfeu  = "${ $d ph y z $. $d x y z $. df-eu $a |- ( E! x ph <-> A. y ( ph <-> y = z ) ) $. $} "
)

// rules are those of logic.
var rules = define.Rules{Equal: []string{"wb"}, Bound: []string{"set"}}

// with returns logic with further statements.
func with(t *testing.T, s string) api.Database {
	t.Helper()
	return database(t, logic+s)
}

// tree returns the tree that a text stands for.
func tree(t *testing.T, s string) api.Tree {
	t.Helper()
	x, e := syntax.Read(s)
	if e != api.OK {
		t.Fatalf("%q: %d", s, e)
	}
	return x
}

// written returns the text of a tree of any size.
func written(t api.Tree) string {
	s := t.Label
	for i, k := range t.Kids {
		s += []string{"(", ","}[min(i, 1)] + written(k)
	}
	if len(t.Kids) > 0 {
		s += ")"
	}
	return s
}

// P20.1: trees by hand.
func TestTree(t *testing.T) {
	db := with(t, dfor+dfand+dffst+dfdup+dfno+dfeu)
	for _, x := range []struct{ label, tree, dummies, want string }{
		{"df-or", "wo(wph,wps)", "", "wi(wn(wph),wps)"},
		{"df-or", "wo(wo(wps,wph),wn(wo(tru,tru)))", "", "wi(wn(wi(wn(wps),wph)),wn(wi(wn(tru),tru)))"},
		{"df-or", "wi(wph,wps)", "", "wi(wph,wps)"},
		{"df-or", "vx", "", "vx"},
		{"df-or", "wa(wps,wph)", "", "wa(wps,wph)"},
		{"df-and", "wa(wph,tru)", "", "wn(wo(wn(wph),wn(tru)))"},
		{"df-fst", "wfst(wfst(tru,wph),wch)", "", "tru"},
		{"df-fst", "wn(wfst(wph,wfst(wps,wch)))", "", "wn(wph)"},
		{"df-dup", "wdup(wdup(wch))", "", "wi(wi(wch,wch),wi(wch,wch))"},
		{"df-no", "wi(wno,wno)", "", "wi(wn(tru),wn(tru))"},
		{"df-eu", "weu(wph,vx)", "vy vu", "wal(wb(wph,weq(vy,vu)),vy)"},
		{"df-eu", "wn(weu(weu(wph,vx),vx))", "vu vz", "wn(wal(wb(wal(wb(wph,weq(vu,vz)),vu),weq(vu,vz)),vu))"},
		{"df-eu", "wph", "vy vx", "wph"},
	} {
		got, e := Tree(db, rules, frame.Find(db, x.label), tree(t, x.tree), strings.Fields(x.dummies))
		if e != api.OK || written(got) != x.want {
			t.Errorf("%s in %s: %s, %d, want %s", x.label, x.tree, written(got), e, x.want)
		}
	}
}

// chain returns a tree of nodes with one kid each, down to a leaf.
func chain(n int, label, last string) api.Tree {
	t := api.Tree{Label: last}
	for range n - 1 {
		t = api.Tree{Label: label, Kids: []api.Tree{t}}
	}
	return t
}

// wide returns a tree of n nodes, not deeper than needed.
func wide(n int) api.Tree {
	if n == 1 {
		return api.Tree{Label: "wph"}
	}
	if n%2 == 0 {
		return api.Tree{Label: "wn", Kids: []api.Tree{wide(n - 1)}}
	}
	half := (n - 1) / 2
	return api.Tree{Label: "wi", Kids: []api.Tree{wide(half), wide(n - 1 - half)}}
}

// P20.1: the errors of Tree, each ahead of those that stand behind it, and its limits.
func TestTreeErrors(t *testing.T) {
	const both = "df-fst $a |- ( fst ph ps <-> ( ph -> ph ) ) $. " // twice the first argument, and not the second one
	const deeper = "df-fst $a |- ( fst ph ps <-> -. ( ph -> ph ) ) $. "
	const noes = "df-dup $a |- ( dup ps <-> -. -. ps ) $. "
	node := func(label string, kids ...api.Tree) api.Tree { return api.Tree{Label: label, Kids: kids} }
	ph := api.Tree{Label: "wph"}
	eu := tree(t, "weu(wph,vx)")
	for name, x := range map[string]struct {
		s       string
		i       string
		t       api.Tree
		dummies string
		want    api.Errno
	}{
		"no definition":             {dfor, "wo", chain(102, "wn", "no"), "no", api.ErrState},
		"used ahead":                {"a $a |- ( ph or ps ) $. " + dfor, "df-or", chain(102, "wn", "no"), "no", define.ErrNew},
		"too large":                 {dfeu, "df-eu", wide(4001), "", api.ErrSize},
		"too deep":                  {dfeu, "df-eu", chain(101, "wn", "no"), "", api.ErrDepth},
		"no tree":                   {dfeu, "df-eu", tree(t, "wn(no)"), "", syntax.ErrTree},
		"another tree":              {dfeu, "df-eu", tree(t, "wn(wph,wph)"), "", syntax.ErrTree},
		"another sort":              {dfeu, "df-eu", tree(t, "wn(vx)"), "", syntax.ErrTree},
		"an assertion":              {dfeu, "df-eu", tree(t, "biid(wph)"), "", syntax.ErrTree},
		"no dummies":                {dfeu, "df-eu", eu, "", api.ErrSize},
		"a dummy less":              {dfeu, "df-eu", eu, "wph", api.ErrSize},
		"a dummy more":              {dfor, "df-or", eu, "vx", api.ErrSize},
		"no variable":               {dfeu, "df-eu", eu, "vy weu", api.ErrType},
		"no label":                  {dfeu, "df-eu", eu, "x vy", api.ErrType},
		"another variable's sort":   {dfeu, "df-eu", eu, "vx wph", ErrDummy},
		"another sort first":        {dfeu, "df-eu", eu, "wph vx", api.ErrType},
		"a dummy twice":             {dfeu, "df-eu", eu, "vy vy", api.ErrTwice},
		"a dummy of the tree":       {dfeu, "df-eu", eu, "vy vx", ErrDummy},
		"a dummy of the tree twice": {dfeu, "df-eu", eu, "vx vx", ErrDummy},
		"its own dummies":           {dfeu, "df-eu", eu, "vy vz", api.OK},
		"its own, exchanged":        {dfeu, "df-eu", eu, "vz vy", api.OK},
		"a dummy ahead of large":    {dfeu, "df-eu", node("wi", wide(3990), node("weu", ph, api.Tree{Label: "vx"})), "vx vy", ErrDummy},
		"4000 nodes":                {both, "df-fst", node("wn", node("wfst", wide(1999), ph)), "", api.OK},
		"4001 nodes":                {both, "df-fst", node("wfst", wide(2000), ph), "", api.ErrLarge},
		"4001 nodes around":         {both, "df-fst", node("wn", node("wn", node("wfst", wide(1999), ph))), "", api.ErrLarge},
		"3999 nodes of a part":      {both, "df-fst", node("wfst", ph, node("wfst", wide(1999), ph)), "", api.OK},
		"4001 nodes of a part":      {both, "df-fst", node("wfst", ph, node("wfst", wide(2000), ph)), "", api.ErrLarge},
		"2 to the power of 99":      {both, "df-fst", fsts(100), "", api.ErrLarge},
		"a depth of 100":            {noes, "df-dup", chain(50, "wdup", "wph"), "", api.OK},
		"a depth of 101":            {noes, "df-dup", chain(51, "wdup", "wph"), "", api.ErrDepth},
		"a depth of 199":            {noes, "df-dup", chain(100, "wdup", "wph"), "", api.ErrDepth},
		"deep and large":            {deeper, "df-fst", node("wfst", node("wi", chain(98, "wn", "wph"), wide(2000)), ph), "", api.ErrLarge},
		"deep and not large":        {deeper, "df-fst", node("wfst", node("wi", chain(98, "wn", "wph"), wide(20)), ph), "", api.ErrDepth},
		"a deep part":               {"df-fst $a |- ( fst ph ps <-> -. -. ph ) $. ", "df-fst", node("wfst", ph, fsts(60)), "", api.OK},
		"no deep part":              {"df-fst $a |- ( fst ph ps <-> -. -. ph ) $. ", "df-fst", fsts(60), "", api.ErrDepth},
	} {
		db := with(t, x.s)
		got, e := Tree(db, rules, frame.Find(db, x.i), x.t, strings.Fields(x.dummies))
		if e != x.want || e != api.OK && !syntax.Equal(got, api.Tree{}) {
			t.Errorf("%s: %d, want %d", name, e, x.want)
		}
	}
}

// fsts returns a tree of n nodes, one below the other, whose first Kids are definienda.
func fsts(n int) api.Tree {
	t := api.Tree{Label: "wph"}
	for range n - 1 {
		t = api.Tree{Label: "wfst", Kids: []api.Tree{t, {Label: "wph"}}}
	}
	return t
}

// P20.1: formulas by hand, and the errors of Text.
func TestText(t *testing.T) {
	all := dfor + dfand + dfdup + dfno + dfeu + dffst
	for _, x := range []struct {
		s, text, want string
		e             api.Errno
	}{
		{all, "|- ( ph or ps )", "|- ( -. ph -> ps )", api.OK},
		{all, "wff ( ph and ps )", "wff -. ( -. -. ps -> -. ph )", api.OK},
		{all, "|- fst dup no ( ph and ps )", "|- ( -. T. -> -. T. )", api.OK},
		{all, "|- E! x no", "|- E! x -. T.", api.OK}, // its definition has dummies
		{all, "set x", "set x", api.OK},
		{dfand, "|- ( ph and ps )", "|- -. ( -. ps or -. ph )", api.OK},
		{"", "|- ( ph and ps )", "|- ( ph and ps )", api.OK},
		{all, "", "", api.ErrForm},
		{all, "no no", "", api.ErrType},
		{all, "|- no no", "", syntax.ErrParse},
		{all, "|- ph ps", "", syntax.ErrParse},
		{all, "wff " + strings.Repeat("-. ", 200) + "ph", "", api.ErrSize},
		{all, "wff " + strings.Repeat("-. ", 100) + "ph", "", api.ErrDepth},
		{dfor, "|-" + strings.Repeat(" dup", 99) + " ph", "|-" + strings.Repeat(" dup", 99) + " ph", api.OK},
		{all, "|-" + strings.Repeat(" dup", 12) + " ph", "", api.ErrLarge},
		{"df-dup $a |- ( dup ps <-> -. -. ps ) $. ", "|-" + strings.Repeat(" dup", 49) + " ph", "|-" + strings.Repeat(" -. -.", 49) + " ph", api.OK},
		{"df-dup $a |- ( dup ps <-> -. -. ps ) $. ", "|-" + strings.Repeat(" dup", 50) + " ph", "", api.ErrDepth},
	} {
		l, e := Text(with(t, x.s), rules, strings.Fields(x.text))
		if e != x.e || strings.Join(l, " ") != x.want {
			t.Errorf("%q with %q: %q, %d, want %q, %d", x.text, x.s, l, e, x.want, x.e)
		}
	}
	// Symbols with spaces are none of the database.
	if _, e := Text(with(t, dfor), rules, []string{"|-", "ph or", "ps"}); e != syntax.ErrParse {
		t.Errorf("symbols with spaces: %d", e)
	}
	// The document names no error for a text of many symbols.
	if l, e := Text(with(t, all), rules, strings.Fields("|-"+strings.Repeat(" dup", 10)+" ph")); e != api.OK || len(l) != 1+1024+3*1023 {
		t.Errorf("many symbols: %d, %d", len(l), e)
	}
}

// P20.1: the reflexivity of equalities.
func TestReflexive(t *testing.T) {
	for _, x := range []struct {
		s, label, want string
	}{
		{"", "wb", "biid"},
		{"a $p |- ( ps <-> ps ) $= ? $.", "wb", "biid"},
		{"a $p |- x = x $= ? $.", "weq", "a"},
		{"${ e $e |- ph $. a $a |- x = x $. $} b $a |- x = y $. c $a |- = x x $. d $a |- y = y $.", "weq", "d"},
		{"a $a |- ( T. -> T. ) $. b $a |- ( -. ph -> -. ph ) $. d $a |- ( ph -> ps ) $.", "wi", ""},
		{"a $a |- ( T. -> T. ) $. d $a |- ( ph -> ph ) $.", "wi", "d"},
		{"a $a |- -. ph $.", "wn", ""},
		{"a $a |- A. x ph $.", "wal", ""},
		{"", "wph", ""}, {"", "", ""}, {"", "no", ""}, {"", "biid", ""}, {"a $a |- ph $.", "wph", ""},
	} {
		db := with(t, x.s)
		n, e := Reflexive(db, x.label)
		if x.want == "" && (e != api.ErrNone || n != 0) || x.want != "" && (e != api.OK || db.Frames[n].Label != x.want) {
			t.Errorf("%s in %q: %d, %d, want %q", x.label, x.s, n, e, x.want)
		}
	}
	if _, e := Reflexive(api.Database{Variables: []string{"x"}}, ""); e != api.ErrState {
		t.Errorf("a database that is not settled: %d", e)
	}
	if _, e := Reflexive(api.Database{}, ""); e != api.ErrNone {
		t.Errorf("an empty database: %d", e)
	}
}

// P20.1: the errors of rules, and of definitions, for all functions, in their order.
func TestErrors(t *testing.T) {
	db := with(t, dfor+"th $p |- ( ph <-> ph ) $= wph biid $.")
	at := frame.Find(db, "df-or")
	many := slices.Repeat([]string{"wb"}, api.MaxHyps+1)
	for name, x := range map[string]struct {
		db   api.Database
		r    define.Rules
		i    int
		want api.Errno
	}{
		"a wrong database":          {api.Database{Constants: []string{"$"}}, define.Rules{Equal: many}, 0, api.ErrForm},
		"too many rules":            {db, define.Rules{Equal: many}, -1, api.ErrSize},
		"no rule":                   {db, define.Rules{Equal: []string{"no"}}, -1, api.ErrArg},
		"below 0":                   {db, rules, -1, api.ErrNone},
		"behind the last assertion": {db, rules, len(db.Frames), api.ErrNone},
		"no definition":             {db, rules, at - 1, api.ErrState},
		"no equality":               {db, define.Rules{}, at, define.ErrEqual},
		"a definition":              {db, rules, at, api.OK},
	} {
		if got, e := Tree(x.db, x.r, x.i, api.Tree{}, []string{""}); e != x.want && (x.want != api.OK || e != syntax.ErrTree) || !syntax.Equal(got, api.Tree{}) {
			t.Errorf("%s: Tree: %v, %d, want %d", name, got, e, x.want)
		}
		if got, e := Database(x.db, x.r, x.i); e != x.want || e != api.OK && !frame.Equal(got, api.Database{}) {
			t.Errorf("%s: Database: %v, %d, want %d", name, got, e, x.want)
		}
		if got, e := Proof(x.db, x.r, x.i, len(db.Frames)-1); e != x.want || (e == api.OK) != (len(got.Steps) == 2) {
			t.Errorf("%s: Proof: %v, %d, want %d", name, got, e, x.want)
		}
		want := x.want
		if want == api.ErrNone || want == api.ErrState || want == define.ErrEqual {
			want = api.OK
		}
		if got, e := Whole(x.db, x.r); e != want || e != api.OK && !frame.Equal(got, api.Database{}) {
			t.Errorf("%s: Whole: %v, %d, want %d", name, got, e, want)
		}
		if got, e := Text(x.db, x.r, []string{"|-", "ph"}); e != want || e != api.OK && got != nil {
			t.Errorf("%s: Text: %v, %d, want %d", name, got, e, want)
		}
	}
}

// P20.1: the errors of Database that concern the definition, and of Proof.
func TestErrorsOfDefinitions(t *testing.T) {
	const th = "th $p |- ( ph <-> ph ) $= wph biid $. "
	const wrong = "bad $p |- ( ph -> ph ) $= wps biid $. "
	apart := strings.Replace(logic, "wal $a", "$d x ph $. wal $a", 1)
	const reflexive = "biid $a |- ( ph <-> ph ) $."
	late := strings.Replace(logic, reflexive, "", 1)
	for name, x := range map[string]struct {
		s, i string
		want api.Errno
	}{
		"dummies":                              {logic + wrong + dfeu, "df-eu", ErrDummy},
		"dummies ahead of pairs":               {apart + dfeu, "df-eu", ErrDummy},
		"dummies ahead of reflexivity":         {late + dfeu, "df-eu", ErrDummy},
		"pairs":                                {apart + "d $a |- ( E! x ph <-> -. A. x ph ) $. " + wrong, "d", api.ErrApart},
		"pairs ahead of reflexivity":           {strings.Replace(apart, reflexive, "", 1) + "d $a |- ( E! x ph <-> A. x ph ) $. ", "d", api.ErrApart},
		"pairs of others":                      {apart + dfor + th, "df-or", api.OK},
		"no reflexivity":                       {late + wrong + dfor, "df-or", ErrReflect},
		"no reflexivity ahead":                 {late + dfor + "biid $a |- ( ph <-> ph ) $. " + th, "df-or", ErrReflect},
		"another reflexivity":                  {late + "b $a |- ( ph -> ph ) $. " + dfor, "df-or", ErrReflect},
		"a symbol that is used ahead":          {logic + "a $a |- ( ph or ps ) $. " + dfor + wrong, "df-or", define.ErrNew},
		"a circle":                             {logic + "d $a |- ( ( ph or ps ) <-> ( ph or ph ) ) $. " + wrong, "d", define.ErrCircle},
		"reflexivity ahead of all":             {strings.Replace(late, "wn $a", "biid $a |- ( ph <-> ph ) $. wn $a", 1) + dfor + th, "df-or", api.OK},
		"pairs of the first axiom":             {strings.Replace(logic, "wn $a wff -. ph $.", "${ $d x ph $. w0 $a wff E! ph x $. $} wn $a wff -. ph $.", 1) + "d $a |- ( E! x ph <-> E! ph x ) $. " + th, "d", api.ErrApart},
		"the equality itself as a definiendum": {late + "d $a |- ( ( ph <-> ps ) <-> -. ( ph -> ps ) ) $. ", "d", ErrReflect},
	} {
		db := database(t, x.s)
		i, last := frame.Find(db, x.i), len(db.Frames)-1
		if got, e := Database(db, rules, i); e != x.want || e != api.OK && !frame.Equal(got, api.Database{}) {
			t.Errorf("%s: Database: %d, want %d", name, e, x.want)
		}
		for _, theorem := range []int{-1, last, last + 1} {
			want := x.want
			if want == api.OK && theorem != last {
				want = api.ErrNone
			}
			if got, e := Proof(db, rules, i, theorem); e != want || e != api.OK && len(got.Steps) > 0 {
				t.Errorf("%s: Proof of %d: %d, want %d", name, theorem, e, want)
			}
		}
	}
	db := with(t, wrong+dfor+th)
	for label, want := range map[string]api.Errno{"wn": api.ErrState, "biid": api.ErrState, "wo": api.ErrState, "df-or": api.ErrState, "bad": api.ErrState, "th": api.OK} {
		if _, e := Proof(db, rules, frame.Find(db, "df-or"), frame.Find(db, label)); e != want {
			t.Errorf("the proof of %s: %d, want %d", label, e, want)
		}
	}
}

// P20.1: the errors of assertions, each ahead of those that stand behind it. Those of an assertion come ahead of those of the next one.
func TestErrorsOfAssertions(t *testing.T) {
	const bad = " bad $p |- ( ph <-> ph ) $= wps biid $. "
	deep := strings.Repeat("dup ", 50) + "ph"  // a depth of 101
	large := strings.Repeat("and ", 12) + "T." // more than 4000 nodes
	long := strings.Repeat("dup ", 90) + "no"  // more than 200 symbols
	const definitions = "d $a |- ( dup ps <-> -. -. ps ) $. "
	for name, x := range map[string]struct {
		s    string
		want api.Errno
	}{
		"nothing wrong":                   {definitions, api.OK},
		"a wrong proof":                   {definitions + bad, api.ErrState},
		"a wrong proof ahead":             {bad + definitions, api.ErrState},
		"a proof that is not there":       {definitions + "th $p |- or $= ? $.", api.ErrState},
		"no sort":                         {definitions + "a $a T. ph $." + bad, api.ErrType},
		"no sort of a premise":            {definitions + "${ e $e T. ph $. a $a |- or $. $}", api.ErrType},
		"no tree":                         {definitions + "a $a |- or $." + bad, syntax.ErrParse},
		"no tree of a premise":            {definitions + "${ e $e |- or $. a $a T. ph $. $}" + bad, syntax.ErrParse},
		"two trees":                       {definitions + "t2 $a wff T. $." + bad, syntax.ErrAmbiguous},
		"too deep":                        {definitions + "a $a |- " + deep + " $." + bad, api.ErrDepth},
		"a premise too deep":              {definitions + "${ e $e |- " + deep + " $. a $a |- ph $. $}" + bad, api.ErrDepth},
		"a premise too deep, and no tree": {definitions + "${ e $e |- " + deep + " $. a $a |- or $. $}" + bad, syntax.ErrParse},
		"deep, then no tree":              {definitions + "a $a |- " + deep + " $. b $a |- or $.", api.ErrDepth},
		"too large":                       {large2 + "a $a |- " + large + " $." + bad, api.ErrLarge},
		"a premise too large":             {large2 + "${ e $e |- " + large + " $. a $a |- ph $. $}" + bad, api.ErrLarge},
		"200 symbols":                     {long2 + "a $a |- ( T. -> " + strings.Repeat("dup ", 48) + "-. -. ph ) $.", api.OK},
		"201 symbols":                     {long2 + "a $a |- ( T. -> -. " + strings.Repeat("dup ", 48) + "-. -. ph ) $." + bad, api.ErrLarge},
		"201 symbols of a premise":        {long2 + "${ e $e |- ( T. -> -. " + strings.Repeat("dup ", 48) + "-. -. ph ) $. a $a |- ph $. $}" + bad, api.ErrLarge},
		"too many symbols, then no tree":  {long2 + "${ e $e |- " + long + " $. a $a |- or $. $}", syntax.ErrParse},
	} {
		db := database(t, strings.Replace(logic, "wa $a wff ( ps and ph ) $.", "wa $a wff and ph $.", 1)+x.s)
		out, e := Database(db, rules, frame.Find(db, "d"))
		if e != x.want || e != api.OK && !frame.Equal(out, api.Database{}) {
			t.Errorf("%s: %d, want %d", name, e, x.want)
		}
	}
}

const (
	large2 = "d $a |- ( and ph <-> ( ph -> ph ) ) $. "
	long2  = "d $a |- ( dup ps <-> ( no -> ps ) ) $. " // three symbols more
)

// P20.1: the document's example, and a theorem whose variable is no longer mandatory.
func TestExamples(t *testing.T) {
	db := with(t, dfor+`th1 $p |- ( ( ph or ps ) <-> ( -. ph -> ps ) ) $= wph wps df-or $. th2 $p |- ( ( T. or ps ) <-> ( T. or ps ) ) $= ( tru wo biid ) BACD $. `)
	out, e := Database(db, rules, frame.Find(db, "df-or"))
	if e != api.OK || len(out.Frames) != len(db.Frames)-2 || frame.Find(out, "wo") >= 0 || frame.Find(out, "df-or") >= 0 {
		t.Fatalf("%v, %d", out, e)
	}
	for label, want := range map[string]string{
		"th1":  "|- ( ( -. ph -> ps ) <-> ( -. ph -> ps ) ) $= wph wn wps wi biid",
		"th2":  "|- ( ( -. T. -> ps ) <-> ( -. T. -> ps ) ) $= tru wn wps wi biid",
		"biid": "|- ( ph <-> ph ) $= ",
	} {
		f := out.Frames[frame.Find(out, label)]
		if got := strings.Join(f.Text, " ") + " $= " + strings.Join(f.Proof, " "); got != want {
			t.Errorf("%s: %q, want %q", label, got, want)
		}
	}
	db = with(t, dffst+`${ $d ph ps $. e $e |- fst ps ph $. $d ph x $. th1 $p |- ( fst ch ps <-> fst ch ps ) $= wch wps wfst biid $. $}
${ f $e |- fst ph ph $. $d ph ps x $. th2 $p |- ( fst ps ch <-> fst ps ch ) $= wph wch wps f th1 $. $} `)
	out, e = Database(db, rules, frame.Find(db, "df-fst"))
	if e != api.ErrState { // th1 is not about these
		t.Errorf("a wrong proof: %d", e)
	}
	db = with(t, dffst+`${ $d ph ps $. e $e |- fst ps ph $. $d ph x $. th1 $p |- ( fst ch ps <-> fst ch ps ) $= wch wps wfst biid $. $}
${ f $e |- fst ph x = y $. $d ph x y $. th2 $p |- ( fst ps ph <-> fst ps ph ) $= vx vy weq wph wps f th1 $. $} `)
	out, e = Database(db, rules, frame.Find(db, "df-fst"))
	if e != api.OK {
		t.Fatalf("variables that vanish: %d", e)
	}
	th1, th2 := out.Frames[len(out.Frames)-2], out.Frames[len(out.Frames)-1]
	labels := func(l []api.Hyp) string {
		var s []string
		for _, h := range l {
			s = append(s, h.Label)
		}
		return strings.Join(s, " ")
	}
	if labels(th1.Hyps) != "wps wch e" || labels(th1.Dummies) != "wph vx vy vz vu" || len(th1.Apart) != 0 || len(th1.Wide) != 2 || strings.Join(th1.Hyps[2].Text, " ") != "|- ps" {
		t.Errorf("th1: %v", th1)
	}
	if labels(th2.Hyps) != "wph wps f" || labels(th2.Dummies) != "wch vx vy vz vu" || len(th2.Wide) != 3 || len(th2.Apart) != 0 || strings.Join(th2.Proof, " ") != "wph wps f th1" {
		t.Errorf("th2: %v", th2)
	}
	if v, e := verify.All(out); e != api.OK || slices.ContainsFunc(v, func(v api.Verdict) bool { return v.Code != api.OK }) {
		t.Errorf("the verdicts: %v, %d", v, e)
	}
	if p, e := Proof(db, rules, frame.Find(db, "df-fst"), len(db.Frames)-1); e != api.OK || !graph.Same(p, api.Proof{Steps: []api.Step{{Label: "wph"}, {Label: "wps"}, {Label: "f"}, {Label: "th1", Args: []int{0, 1, 2}}}}) {
		t.Errorf("the proof of th2: %v, %d", p, e)
	}
}

// P20.1: definitions are found again after each one, as long as the rules are right.
func TestWhole(t *testing.T) {
	const equal = "wq $a wff ( ph = ps ) $. "
	const dfq = "df-q $a |- ( ( ph = ps ) <-> -. ( ph -> -. ps ) ) $. "
	const th = "th $p |- ( ( T. or no ) <-> ( T. or no ) ) $= tru wno wo biid $. "
	two := define.Rules{Equal: []string{"wb", "wq"}, Bound: []string{"set"}}
	for _, x := range []struct {
		name, s string
		r       define.Rules
		gone    string
		want    api.Errno
	}{
		{"nothing to do", th, rules, "", api.OK},
		{"one", th + dfor, rules, "", api.OK}, // th uses it ahead
		{"all", dfand + dfor + dfno + th, rules, "df-and df-or df-no wa wo wno", api.OK},
		{"with dummies", dfeu + dfor + th, rules, "df-or wo", api.OK},
		{"no equalities", dfor + th, define.Rules{}, "", api.OK},
		{"no reflexivity", equal + "d $a |- ( no = T. ) $. " + dfor + th, two, "", ErrReflect},
		{"no reflexivity of the last one", equal + dfor + "d $a |- ( no = T. ) $. ", two, "", ErrReflect},
		{"an equality, used", dfor + equal + dfq + "refl $a |- ( ph = ph ) $. d $a |- ( no = T. ) $. " + th, two, "d wno df-q wq", api.OK},
		{"an equality", dfno + equal + dfq, two, "df-q wq", api.OK},
		{"an equality that is not named", dfno + equal + dfq, rules, "df-q wq df-no wno", api.OK},
		{"a wrong proof", dfor + "bad $p |- ph $= ? $.", rules, "", api.ErrState},
		{"dummies alone, and a wrong proof", dfeu + "bad $p |- ph $= ? $.", rules, "", api.OK},
	} {
		db := with(t, x.s)
		before := with(t, x.s)
		out, e := Whole(db, x.r)
		if e != x.want || e != api.OK && !frame.Equal(out, api.Database{}) || !frame.Equal(db, before) {
			t.Errorf("%s: %d, want %d", x.name, e, x.want)
			continue
		}
		var gone []string
		for _, f := range db.Frames {
			if e == api.OK && frame.Find(out, f.Label) < 0 {
				gone = append(gone, f.Label)
			}
		}
		want := strings.Fields(x.gone)
		slices.Sort(gone)
		slices.Sort(want)
		if !slices.Equal(gone, want) || e == api.OK && len(want) == 0 && !frame.Equal(out, db) {
			t.Errorf("%s: without %q, want %q", x.name, gone, want)
		}
	}
}

// R4 and LANGUAGE.md: what is returned shares no memory with the arguments.
func TestMemory(t *testing.T) {
	s := dfor + "${ e $e |- ph $. $d ch ph $. ${ $d ph ps x $. a $a |- ( ph or ps ) $. $} b $a |- ( ph or ps ) $. $} ${ e2 $e |- ph $. $d ph ps $. th $p |- ( ( ph or ps ) <-> ( ph or ps ) ) $= wph wps wo biid $. $}"
	spoil := func(db api.Database) {
		db.Constants[0], db.Variables[0] = "spoiled", "spoiled"
		for _, f := range db.Frames {
			for _, l := range [][]api.Hyp{f.Hyps, f.Dummies} {
				for i := range l {
					l[i].Text[0] = "spoiled"
				}
			}
			f.Text[0] = "spoiled"
			clear(f.Apart)
			clear(f.Wide)
			clear(f.Proof)
		}
	}
	db, same := with(t, s), with(t, s)
	one, _ := Whole(db, rules)
	two, _ := Database(db, rules, frame.Find(db, "df-or"))
	three, _ := Whole(db, define.Rules{})
	for name, out := range map[string]api.Database{"Whole": one, "Database": two, "Whole without rules": three} {
		before := texts(out)
		out.Frames[frame.Find(out, "a")].Text[0] = "spoiled"
		out.Frames[frame.Find(out, "a")].Hyps[2].Text[0] = "spoiled"
		if after := texts(out); strings.Count(after, "spoiled") != 2 || strings.Count(before, "|-") != strings.Count(after, "|-")+2 {
			t.Errorf("%s shares memory within its result", name)
		}
		spoil(out)
		if !frame.Equal(db, same) {
			t.Fatalf("%s shares memory with its argument", name)
		}
	}
}

// texts returns all formulas of a database.
func texts(db api.Database) string {
	var l []string
	for _, f := range db.Frames {
		l = append(l, f.Text...)
		for _, h := range f.Hyps {
			l = append(l, h.Text...)
		}
	}
	return strings.Join(l, " ")
}
