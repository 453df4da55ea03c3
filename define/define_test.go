package define

import (
	"slices"
	"strconv"
	"strings"
	"testing"

	"apodixis/api"
	"apodixis/frame"
	"apodixis/layout"
	"apodixis/syntax"
)

// database returns the database of a text.
func database(t *testing.T, s string) api.Database {
	t.Helper()
	l, _, e := layout.Parse(strings.Fields(s))
	db, _, f := frame.Database(l)
	if e != api.OK || f != api.OK {
		t.Fatalf("%q: %d, %d", s, e, f)
	}
	return db
}

// logic has two equalities, quantifiers, and a syntax axiom whose Kids stand in another order than in its text.
const logic = `$c wff set class |- ( ) -> -. <-> == or if A. E! = T. F. $. $v ph ps ch x y z u A B $.
wph $f wff ph $. wps $f wff ps $. wch $f wff ch $. vx $f set x $. vy $f set y $. vz $f set z $. vu $f set u $. cA $f class A $. cB $f class B $.
wn $a wff -. ph $. wi $a wff ( ph -> ps ) $. wb $a wff ( ph <-> ps ) $. wal $a wff A. x ph $. weq $a wff x = y $. cv $a class x $. wceq $a wff A == B $. tru $a wff T. $.
wo $a wff ( ph or ps ) $. weu $a wff E! x ph $. fal $a wff F. $. cif $a class if ph A B $. `

// rules are those of logic.
var rules = Rules{Equal: []string{"wb", "wceq"}, Bound: []string{"set"}}

// with returns logic with further statements, and the number of the assertion d.
func with(t *testing.T, s string) (api.Database, int) {
	t.Helper()
	db := database(t, logic+s)
	return db, frame.Find(db, "d")
}

// tree returns the tree that a text stands for.
func tree(t *testing.T, s string) api.Tree {
	t.Helper()
	x, e := syntax.Read(s)
	if e != api.OK {
		t.Fatalf("%q: %d", s, e)
	}
	return x
}

func same(a, b Definition) bool {
	return a.Label == b.Label && slices.Equal(a.Args, b.Args) && slices.Equal(a.Dummies, b.Dummies) && syntax.Equal(a.Right, b.Right)
}

// P19.1: the parts of definitions, and of axioms that have the form of one alone.
func TestParts(t *testing.T) {
	for s, want := range map[string]Definition{
		"d $a |- ( ( ph or ps ) <-> ( -. ph -> ps ) ) $.":            {"wo", []string{"wph", "wps"}, nil, tree(t, "wi(wn(wph),wps)")},
		"d $a |- ( ( ps or ph ) <-> -. ps ) $.":                      {"wo", []string{"wps", "wph"}, nil, tree(t, "wn(wps)")},
		"d $a |- ( F. <-> -. T. ) $.":                                {"fal", nil, nil, tree(t, "wn(tru)")},
		"d $a |- ( F. <-> ph ) $.":                                   {"fal", nil, []string{"wph"}, tree(t, "wph")},
		"d $a |- ( E! x ph <-> A. y ( ph <-> x = y ) ) $.":           {"weu", []string{"wph", "vx"}, []string{"vy"}, tree(t, "wal(wb(wph,weq(vx,vy)),vy)")},
		"d $a |- ( E! x ph <-> A. z A. y ( z = u -> ps ) ) $.":       {"weu", []string{"wph", "vx"}, []string{"vz", "vu", "wps", "vy"}, tree(t, "wal(wal(wi(weq(vz,vu),wps),vy),vz)")},
		"d $a |- if ph A B == A $.":                                  {"cif", []string{"wph", "cA", "cB"}, nil, tree(t, "cA")},
		"d $a |- x == y $.":                                          {"cv", []string{"vx"}, []string{"vy"}, tree(t, "cv(vy)")},
		"d $a |- ( ( ph or ps ) <-> ( ps or ph ) ) $.":               {"wo", []string{"wph", "wps"}, nil, tree(t, "wo(wps,wph)")},
		"d $a |- ( ( ph <-> ps ) <-> -. ( ph -> ps ) ) $.":           {"wb", []string{"wph", "wps"}, nil, tree(t, "wn(wi(wph,wps))")},
		"a $a |- ( ph or ps ) $. d $a |- ( ( ch or ps ) <-> T. ) $.": {"wo", []string{"wch", "wps"}, nil, tree(t, "tru")},
	} {
		db, i := with(t, s)
		d, e := Parts(db, rules, i)
		if e != api.OK || !same(d, want) {
			t.Errorf("%q: %v, %d, want %v", s, d, e, want)
		}
	}
}

// P19.1: the errors of Parts and Check, each ahead of those that stand behind it.
func TestCheck(t *testing.T) {
	for s, want := range map[string]api.Errno{
		// definitions
		"d $a |- ( ( ph or ps ) <-> ( -. ph -> ps ) ) $.":                                                api.OK,
		"d $a |- ( ( ph or ps ) <-> T. ) $.":                                                             api.OK,
		"d $a |- ( F. <-> -. T. ) $.":                                                                    api.OK,
		"$d ph y $. $d x y $. d $a |- ( E! x ph <-> A. y ( ph <-> x = y ) ) $.":                          api.OK,
		"$d x y $. d $a |- ( F. <-> A. x A. y x = y ) $.":                                                api.OK,
		"d $a |- ( F. <-> A. x x = x ) $.":                                                               api.OK,
		"d $a |- ( ( ph <-> ps ) <-> -. ph ) $.":                                                         api.OK,
		"$d ph ps $. d $a |- ( ( ph or ps ) <-> ph ) $.":                                                 api.OK,
		"a $a wff ( ph or ps ) or $. d $a |- ( ( ph or ps ) <-> ph ) $.":                                 api.OK,
		"a $a wff or $. ${ e $e wff ( ph or ps ) $. b $a |- ps $. $} d $a |- ( ( ph or ps ) <-> ph ) $.": api.OK,
		"a $a |- ( ph or or ps ) $. d $a |- ( ( ph or ps ) <-> ph ) $.":                                  api.OK, // a formula without a tree
		// Parts
		"d $p |- ( ( ph or ps ) <-> or ) $= ? $.":                 api.ErrState,
		"d $a wff ( ( ph or ps ) <-> ch ) -> $.":                  api.ErrState,
		"${ e $e |- ph $. d $p |- ( ph or ps ) $= ? $. $}":        api.ErrState,
		"${ e $e |- ph $. d $a |- ( ( ph or ps ) <-> or ) $. $}":  ErrHyps,
		"${ e $e wff T. $. d $a |- ( ( ph or ps ) <-> ph ) $. $}": ErrHyps,
		"d $a |- ( ( ph or ps ) <-> or ) $.":                      syntax.ErrParse,
		"amb $a wff T. $. d $a |- ( ( ph or ps ) <-> T. ) $.":     syntax.ErrAmbiguous,
		"d $a |- ( ( ph or ph ) -> ps ) $.":                       ErrEqual,
		"d $a |- ph $.":                                           ErrEqual,
		"d $a |- x = y $.":                                        ErrEqual,
		"d $a |- ( ph <-> ( ph or ps ) ) $.":                      ErrArgs,
		"d $a |- ( ( ph or ph ) <-> ( ph or ph ) ) $.":            ErrArgs,
		"d $a |- ( ( ph or -. ps ) <-> ps ) $.":                   ErrArgs,
		"d $a |- ( ( ph or T. ) <-> ps ) $.":                      ErrArgs,
		"d $a |- if ph A A == A $.":                               ErrArgs,
		// ErrNew
		"$c new $. d $a |- ( new <-> T. ) $. wnew $a wff new $.":                             ErrNew,
		"$c new $. d $a |- ( new <-> new ) $. wnew $a wff new $.":                            ErrNew,
		"a $a |- ( ph or ps ) $. d $a |- ( ( ph or ps ) <-> ( ps or ch ) ) $.":               ErrNew,
		"a $p |- ( ph or ps ) $= ? $. d $a |- ( ( ph or ps ) <-> ph ) $.":                    ErrNew,
		"${ e $e |- ( ph or ps ) $. a $a |- ph $. $} d $a |- ( ( ph or ps ) <-> ph ) $.":     ErrNew,
		"${ e $e |- -. ( T. or ps ) $. a $a wff or $. $} d $a |- ( ( ph or ps ) <-> ph ) $.": ErrNew,
		"d0 $a |- ( ( ph or ps ) <-> ph ) $. d $a |- ( ( ph or ps ) <-> ph ) $.":             ErrNew,
		// ErrCircle
		"d $a |- ( ( ph or ps ) <-> ( ps or ch ) ) $.":          ErrCircle,
		"d $a |- ( ( ph or ps ) <-> -. -. ( T. or x = y ) ) $.": ErrCircle,
		"d $a |- x == y $.": ErrCircle,
		// ErrBound
		"d $a |- ( ( ph or ps ) <-> ch ) $.":                         ErrBound,
		"$d ph ch $. $d ps ch $. d $a |- ( ( ph or ps ) <-> ch ) $.": ErrBound,
		"d $a |- ( F. <-> ( x = y -> ch ) ) $.":                      ErrBound,
		// ErrDummy
		"d $a |- ( F. <-> A. x A. y x = y ) $.":                                                ErrDummy,
		"$d x y $. d $a |- ( E! x ph <-> A. y ( ph <-> x = y ) ) $.":                           ErrDummy,
		"$d ph y $. d $a |- ( E! x ph <-> A. y ( ph <-> x = y ) ) $.":                          ErrDummy,
		"$d x y ph $. d $a |- ( E! x ph <-> A. z A. y x = y ) $.":                              ErrDummy,
		"$d x y $. $d z ph $. $d y ph $. $d x z $. d $a |- ( E! x ph <-> A. z A. y x = y ) $.": ErrDummy, // y and z
		"$d x y z $. d $a |- ( E! x ph <-> A. z A. y x = y ) $.":                               ErrDummy,
	} {
		db, i := with(t, s)
		if e := Check(db, rules, i); e != want {
			t.Errorf("%q: %d, want %d", s, e, want)
		}
		d, e := Parts(db, rules, i)
		if isOfParts := want != api.OK && (want < ErrNew || want > ErrDummy); isOfParts && (e != want || !same(d, Definition{})) || !isOfParts && e != api.OK {
			t.Errorf("%q: the parts are %v, %d, want %d", s, d, e, want)
		}
	}
}

// P19.1: the order of the errors of databases, rules and numbers, for all functions.
func TestErrors(t *testing.T) {
	db, i := with(t, "d $a |- ( ( ph or ps ) <-> ( -. ph -> ps ) ) $.")
	unsettled := database(t, "$c wff $. ${ $v p $. wp $f wff p $. a $a wff p $. $} ${ $v q $. wq $f wff q $. b $a wff q $. $}")
	many := slices.Repeat([]string{"wb"}, api.MaxHyps+1)
	sets := slices.Repeat([]string{"set"}, api.MaxHyps+1)
	for name, x := range map[string]struct {
		db   api.Database
		r    Rules
		i    int
		want api.Errno
	}{
		"a wrong database":          {api.Database{Constants: []string{"$"}}, Rules{Equal: many}, 9, api.ErrForm},
		"a database of scopes":      {unsettled, Rules{Equal: many}, 9, api.ErrState},
		"too many equalities":       {db, Rules{Equal: append(many, "no")}, 99, api.ErrSize},
		"too many sorts":            {db, Rules{Equal: []string{"no"}, Bound: sets}, 99, api.ErrSize},
		"as many as may be":         {db, Rules{Equal: many[1:], Bound: sets[1:]}, i, api.OK},
		"no rule":                   {db, Rules{Equal: []string{"wb", "no"}}, 99, api.ErrArg},
		"an empty label":            {db, Rules{Equal: []string{""}}, 99, api.ErrArg},
		"a variable":                {db, Rules{Equal: []string{"wph"}}, 99, api.ErrArg},
		"one expression":            {db, Rules{Equal: []string{"wn"}}, 99, api.ErrArg},
		"three expressions":         {db, Rules{Equal: []string{"cif"}}, 99, api.ErrArg},
		"two sorts":                 {db, Rules{Equal: []string{"wal"}}, 99, api.ErrArg},
		"no expression":             {db, Rules{Equal: []string{"tru"}}, 99, api.ErrArg},
		"an assertion":              {db, Rules{Equal: []string{"d"}}, 99, api.ErrArg},
		"no sort":                   {db, Rules{Equal: []string{"wb"}, Bound: []string{"set", "no"}}, 99, api.ErrArg},
		"a typecode that is none":   {db, Rules{Bound: []string{"|-"}}, 99, api.ErrArg},
		"below 0":                   {db, rules, -1, api.ErrNone},
		"behind the last assertion": {db, rules, i + 1, api.ErrNone},
		"no rules":                  {db, Rules{}, i, ErrEqual},
		"nothing":                   {api.Database{}, Rules{}, 0, api.ErrNone},
		"nothing, with a rule":      {api.Database{}, Rules{Equal: []string{"wb"}}, 0, api.ErrArg},
	} {
		d, e := Parts(x.db, x.r, x.i)
		if e != x.want || e != api.OK && !same(d, Definition{}) {
			t.Errorf("%s: Parts: %v, %d, want %d", name, d, e, x.want)
		}
		if e := Check(x.db, x.r, x.i); e != x.want {
			t.Errorf("%s: Check: %d, want %d", name, e, x.want)
		}
		if e := Justify(x.db, x.r, x.i, -1); e != x.want && (x.want != api.OK || e != api.ErrNone) {
			t.Errorf("%s: Justify: %d, want %d", name, e, x.want)
		}
		want := x.want
		if want == api.ErrNone || want == ErrEqual {
			want = api.OK
		}
		var l, ranks []int // those of a database that is right by rules that are right
		first, none := 0, want
		if want == api.OK {
			none = api.ErrNone
		}
		if want == api.OK && slices.Contains(x.r.Equal, "wb") && len(x.db.Frames) > 0 {
			l, ranks, first, none = []int{i}, []int{1}, i, api.OK
		}
		if got, e := All(x.db, x.r); e != want || !slices.Equal(got, l) {
			t.Errorf("%s: All: %v, %d, want %v, %d", name, got, e, l, want)
		}
		if got, e := Ranks(x.db, x.r); e != want || !slices.Equal(got, ranks) {
			t.Errorf("%s: Ranks: %v, %d, want %v, %d", name, got, e, ranks, want)
		}
		if n, e := Of(x.db, x.r, "wo"); e != none || n != first {
			t.Errorf("%s: Of: %d, %d, want %d, %d", name, n, e, first, none)
		}
	}
}

// P19.1: databases without any syntax axiom.
func TestNoSyntax(t *testing.T) {
	for s, want := range map[string]api.Errno{
		"$c set |- $. $v x $. vx $f set x $. a $a |- x $.":          api.ErrType,
		"$c wff |- $. $v ph $. wph $f wff ph $. a $a |- ph $.":      ErrEqual,
		"$c wff |- $. $v ph $. wph $f wff ph $. a $a |- $.":         syntax.ErrParse,
		"$c wff |- $. $v ph $. wph $f wff ph $. a $p |- ph $= ? $.": api.ErrState,
		"$c |- $. a $a |- $.": api.ErrType,
		"$c wff |- $. $v ph $. wph $f wff ph $. ${ e $e |- ph $. a $a |- ph $. $}": ErrHyps,
	} {
		db := database(t, s)
		if e := Check(db, Rules{}, 0); e != want {
			t.Errorf("%q: %d, want %d", s, e, want)
		}
	}
}

// needy has definitions that need each other, with what stands between them, and one that says nothing of a part.
const needy = `d0 $a |- ( F. <-> -. T. ) $. a0 $a |- ( ph -> ph ) $. d1 $a |- ( ( ph or ps ) <-> ( F. -> ps ) ) $.
wx $a wff ( ph == ps ) $. d2 $a |- ( ( ph == ps ) <-> -. ( ph or T. ) ) $. wy $a wff -> $. dy $a |- ( -> <-> T. ) $. wz $a wff <-> $. dz $a |- ( <-> <-> ( -> or ( F. == F. ) ) ) $.
$d x y $. $d ph y $. d3 $a |- ( E! x ph <-> A. y ( ph <-> x = y ) ) $. d4 $a |- if ph A B == A $. `

// P19.1 and P19.3: lists of definitions, and their ranks.
func TestLists(t *testing.T) {
	db, _ := with(t, needy)
	var want []int
	for _, label := range strings.Fields("d0 d1 d2 dy dz d3 d4") {
		want = append(want, frame.Find(db, label))
	}
	l, e := All(db, rules)
	if e != api.OK || !slices.Equal(l, want) {
		t.Errorf("All: %v, %d, want %v", l, e, want)
	}
	if l, e := Ranks(db, rules); e != api.OK || !slices.Equal(l, []int{1, 2, 3, 1, 4, 1, 1}) {
		t.Errorf("Ranks: %v, %d", l, e)
	}
	for i, label := range strings.Fields("fal wo wx wy wz weu cif") {
		if n, e := Of(db, rules, label); e != api.OK || n != want[i] {
			t.Errorf("Of %s: %d, %d, want %d", label, n, e, want[i])
		}
	}
	for _, label := range []string{"", "wi", "wph", "d0", "no"} {
		if n, e := Of(db, rules, label); e != api.ErrNone || n != 0 {
			t.Errorf("Of %s: %d, %d", label, n, e)
		}
	}
}

// P19.1: a chain of as many definitions as a database may have, each of which needs the one ahead.
func TestLongChain(t *testing.T) {
	db := database(t, "$c wff |- <-> $. $v p q $. wp $f wff p $. wq $f wff q $. wb $a wff <-> p q $. w0 $a wff |- $. ")
	text := "|-"
	var want, ranks []int
	for n := 1; len(db.Frames)+2 <= api.MaxFrames; n++ {
		c := "c" + strconv.Itoa(n)
		db.Constants = append(db.Constants, c)
		floats := db.Frames[1].Dummies
		db.Frames = append(db.Frames, api.Frame{Label: "w" + c, Text: []string{"wff", c}, Dummies: floats}, api.Frame{Label: "d" + c, Text: []string{"|-", "<->", c, text}, Dummies: floats})
		want, ranks = append(want, len(db.Frames)-1), append(ranks, n)
		text = c
	}
	r := Rules{Equal: []string{"wb"}}
	if l, e := All(db, r); e != api.OK || !slices.Equal(l, want) {
		t.Errorf("All: %v, %d", l, e)
	}
	if l, e := Ranks(db, r); e != api.OK || !slices.Equal(l, ranks) {
		t.Errorf("Ranks: %v, %d", l, e)
	}
}

// P19.1: theorems that justify a definition, and others.
func TestJustify(t *testing.T) {
	const d = "${ $d ph y $. $d x y $. $d ph x $. d $a |- ( E! x ph <-> A. y ( ph <-> x = y ) ) $. $} "
	const two = "${ $d ph y z $. $d x y z $. d $a |- ( E! x ph <-> A. y A. z ( ph <-> z = y ) ) $. $} "
	for _, x := range []struct {
		definition, s string
		want          api.Errno
	}{
		{d, "j $p |- ( A. y ( ph <-> x = y ) <-> A. z ( ph <-> x = z ) ) $= ? $.", api.OK},
		{d, "j $a |- ( A. u ( ch <-> z = u ) <-> A. x ( ch <-> z = x ) ) $.", api.OK},
		{d, "$d y z $. $d y x ph $. $d z ph $. j $p |- ( A. y ( ph <-> x = y ) <-> A. z ( ph <-> x = z ) ) $= ? $.", api.OK},
		{d, "$d x ph $. j $p |- ( A. y ( ph <-> x = y ) <-> A. z ( ph <-> x = z ) ) $= ? $.", api.OK},
		{d, "$d ch z u x $. $d u x z $. j $p |- ( A. u ( ch <-> z = u ) <-> A. x ( ch <-> z = x ) ) $= ? $.", api.OK},
		{d, "$d u x $. $d u A $. j $p |- ( A. u ( ch <-> z = u ) <-> A. x ( ch <-> z = x ) ) $= ? $.", api.OK},
		{d, "j $p |- ( A. y ( ph <-> x = y ) <-> A. y ( ph <-> x = y ) ) $= ? $.", ErrJustify},
		{d, "j $p |- ( A. y ( ph <-> x = y ) <-> A. x ( ph <-> x = x ) ) $= ? $.", ErrJustify},
		{d, "j $p |- ( A. y ( ph <-> x = y ) <-> A. z ( ps <-> x = z ) ) $= ? $.", ErrJustify},
		{d, "j $p |- ( A. y ( ph <-> x = y ) <-> A. z ( ph <-> u = z ) ) $= ? $.", ErrJustify},
		{d, "j $p |- ( A. y ( ph <-> x = y ) <-> A. z ( ph <-> x = u ) ) $= ? $.", ErrJustify},
		{d, "j $p |- ( A. y ( -. ph <-> x = y ) <-> A. z ( -. ph <-> x = z ) ) $= ? $.", ErrJustify},
		{d, "j $p |- ( A. y ( T. <-> x = y ) <-> A. z ( T. <-> x = z ) ) $= ? $.", ErrJustify},
		{d, "j $p |- ( A. y ( ph <-> x = y ) -> A. z ( ph <-> x = z ) ) $= ? $.", ErrJustify},
		{d, "j $p |- ( A. y ( ph <-> x = y ) <-> ph ) $= ? $.", ErrJustify},
		{d, "j $p |- ( ph <-> A. y ( ph <-> x = y ) ) $= ? $.", ErrJustify},
		{d, "j $p |- A. y ( ph <-> x = y ) <-> $= ? $.", ErrJustify},
		{d, "j $p wff ( A. y ( ph <-> x = y ) <-> A. z ( ph <-> x = z ) ) $= ? $.", ErrJustify},
		{d, "${ e $e |- T. $. j $p |- ( A. y ( ph <-> x = y ) <-> A. z ( ph <-> x = z ) ) $= ? $. $}", ErrJustify},
		{d, "j $p |- x == x $= ? $.", ErrJustify},
		{two, "j $p |- ( A. y A. z ( ph <-> z = y ) <-> A. x A. u ( ph <-> u = x ) ) $= ? $.", api.OK},
		{two, "$d x y z u ph $. j $p |- ( A. y A. z ( ph <-> z = y ) <-> A. x A. u ( ph <-> u = x ) ) $= ? $.", api.OK},
		{two, "j $p |- ( A. y A. z ( ph <-> z = y ) <-> A. z A. u ( ph <-> u = z ) ) $= ? $.", ErrJustify},
		{two, "j $p |- ( A. y A. z ( ph <-> z = y ) <-> A. z A. y ( ph <-> y = z ) ) $= ? $.", ErrJustify},
		{two, "j $p |- ( A. y A. y ( ph <-> y = y ) <-> A. x A. u ( ph <-> u = x ) ) $= ? $.", ErrJustify},
		// without dummies
		{"d $a |- ( ( ph or ps ) <-> ph ) $. ", "j $p |- ( ch <-> ch ) $= ? $.", api.OK},
		{"d $a |- ( ( ph or ps ) <-> ph ) $. ", "j $p |- ( ch <-> ph ) $= ? $.", ErrJustify},
		{"d $a |- ( ( ph or ps ) <-> ( ph -> ps ) ) $. ", "j $p |- ( ( ch -> ph ) <-> ( ch -> ph ) ) $= ? $.", api.OK},
		{"d $a |- ( ( ph or ps ) <-> ( ph -> ps ) ) $. ", "j $p |- ( ( ch -> ch ) <-> ( ch -> ch ) ) $= ? $.", ErrJustify},
		{"d $a |- ( ( ph or ps ) <-> ( ph -> ps ) ) $. ", "$d ch ph $. j $p |- ( ( ch -> ph ) <-> ( ch -> ph ) ) $= ? $.", ErrJustify},
		{"${ $d ph ps $. d $a |- ( ( ph or ps ) <-> ( ph -> ps ) ) $. $} ", "$d ch ph $. j $p |- ( ( ch -> ph ) <-> ( ch -> ph ) ) $= ? $.", api.OK},
		{"${ $d ph ps $. d $a |- ( ( ph or ps ) <-> ( ps -> ph ) ) $. $} ", "$d ch ph $. j $p |- ( ( ph -> ch ) <-> ( ph -> ch ) ) $= ? $.", api.OK},
		{"d $a |- ( F. <-> T. ) $. ", "j $p |- ( T. <-> T. ) $= ? $.", api.OK},
		{"d $a |- if ph A B == A $. ", "j $p |- B == B $= ? $.", api.OK},
		{"d $a |- if ph A B == A $. ", "j $p |- ( ph <-> ph ) $= ? $.", ErrJustify},
		// a definition that justifies itself, and one that is none
		{"", "d $a |- ( ( ph or ps ) <-> ph ) $.", ErrJustify},
		{"", "d $a |- ( ( ph or ps ) <-> ( ps or ph ) ) $.", ErrCircle},
		{"a $a |- ( ph or ps ) $. d $a |- ( ( ph or ps ) <-> ph ) $. ", "j $p |- ( ch <-> ch ) $= ? $.", ErrNew},
	} {
		db, i := with(t, x.definition+x.s)
		theorem := len(db.Frames) - 1
		if e := Justify(db, rules, i, theorem); e != x.want {
			t.Errorf("%q by %q: %d, want %d", x.definition, x.s, e, x.want)
		}
		if x.want == api.OK || x.want == ErrJustify {
			x.want = api.ErrNone
		}
		for _, theorem := range []int{-1, len(db.Frames)} {
			if e := Justify(db, rules, i, theorem); e != x.want {
				t.Errorf("%q by the theorem %d: %d, want %d", x.definition, theorem, e, x.want)
			}
		}
		if e := Justify(db, rules, i, 0); x.want == api.ErrNone && e != ErrJustify {
			t.Errorf("%q by the first assertion: %d", x.definition, e)
		}
	}
}
