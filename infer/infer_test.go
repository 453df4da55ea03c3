package infer

import (
	"slices"
	"strconv"
	"strings"
	"testing"

	"apodixis/api"
	"apodixis/frame"
	"apodixis/graph"
	"apodixis/layout"
	"apodixis/syntax"
	"apodixis/unify"
)

// database returns the database of a text.
func database(t *testing.T, s string) api.Database {
	t.Helper()
	l, _, e := layout.Parse(strings.Fields(s))
	db, at, f := frame.Database(l)
	if e != api.OK || f != api.OK {
		t.Fatalf("%q: %d, %d at %d", s, e, f, at)
	}
	return db
}

// logic has axioms with and without premises, one of which has other premises, and disjoint pairs.
const logic = `$c wff set |- ( ) -> -. A. = T. F. $. $v ph ps ch x y z $.
wph $f wff ph $. wps $f wff ps $. wch $f wff ch $. vx $f set x $. vy $f set y $. vz $f set z $.
wn $a wff -. ph $. wi $a wff ( ph -> ps ) $. wal $a wff A. x ph $. weq $a wff x = y $. tru $a wff T. $.
ax1 $a |- ( ph -> ( ps -> ph ) ) $. ax2 $a |- ( ( ph -> ( ps -> ch ) ) -> ( ( ph -> ps ) -> ( ph -> ch ) ) ) $. ax3 $a |- ( ( -. ph -> -. ps ) -> ( ps -> ph ) ) $.
${ min $e |- ph $. maj $e |- ( ph -> ps ) $. mp $a |- ps $. $} ${ g $e |- ph $. gen $a |- A. x ph $. $} ${ $d x ph $. ax5 $a |- ( ph -> A. x ph ) $. $}
tt $a |- T. $. ${ k1 $e |- ph $. k2 $e |- ps $. keep $a |- ph $. $} ${ n1 $e |- -. -. ph $. nn $a |- ph $. $} any $a |- ph $. ${ o $e wff ph $. other $a |- ph $. $} `

// with returns logic with further statements, and the number of the assertion th.
func with(t *testing.T, s string) (api.Database, int) {
	t.Helper()
	db := database(t, logic+s)
	return db, frame.Find(db, "th")
}

// lines returns the lines that a text has between semicolons: a label, numbers, and perhaps a formula behind a colon.
func lines(s string) []Line {
	var l []Line
	for _, part := range strings.Split(s, ";") {
		head, text, _ := strings.Cut(part, ":")
		x := Line{Text: strings.Fields(text)}
		for n, word := range strings.Fields(head) {
			a, err := strconv.Atoi(word)
			if n == 0 {
				x.Label = word
			} else if err == nil {
				x.Args = append(x.Args, a)
			}
		}
		l = append(l, x)
	}
	return l
}

// tree returns the tree that a text stands for.
func tree(t *testing.T, s string) api.Tree {
	t.Helper()
	x, e := syntax.Read(s)
	if e != api.OK {
		t.Fatalf("%q: %d", s, e)
	}
	return x
}

// written returns the texts of trees of any size.
func written(l []api.Tree) string {
	var s []string
	for _, t := range l {
		x := t.Label
		if len(t.Kids) > 0 {
			x += "(" + strings.ReplaceAll(written(t.Kids), " ", ",") + ")"
		}
		s = append(s, x)
	}
	return strings.Join(s, " ")
}

func sameProof(a, b api.Proof) bool {
	return slices.EqualFunc(a.Steps, b.Steps, func(x, y api.Step) bool { return x.Label == y.Label && slices.Equal(x.Args, y.Args) })
}

func sameLines(a, b []Line) bool {
	return slices.EqualFunc(a, b, func(x, y Line) bool {
		return x.Label == y.Label && slices.Equal(x.Args, y.Args) && slices.Equal(x.Text, y.Text)
	})
}

// proof returns the graph that a text has: labels, and numbers in brackets.
func proof(s string) api.Proof {
	var p api.Proof
	for _, word := range strings.Fields(s) {
		label, args, _ := strings.Cut(strings.TrimSuffix(word, ")"), "(")
		x := api.Step{Label: label}
		for _, a := range strings.FieldsFunc(args, func(r rune) bool { return r == ',' }) {
			n, _ := strconv.Atoi(a)
			x.Args = append(x.Args, n)
		}
		p.Steps = append(p.Steps, x)
	}
	return p
}

// P21.1: trees and formulas of lines, and the errors of Trees and Complete behind those of the lines.
func TestComplete(t *testing.T) {
	const id = "ax1 : |- ( ph -> ( ph -> ph ) ) ; ax1 : |- ( ph -> ( ( ph -> ph ) -> ph ) ) ; ax2 ; mp 1 2 ; mp 0 3"
	for _, x := range []struct {
		s, lines, trees string
		e, complete     api.Errno
	}{
		{"th $p |- ( ph -> ( ps -> ph ) ) $= ? $.", "ax1", "wi(wph,wi(wps,wph))", api.OK, api.OK},
		{"th $a |- ( ph -> ( ps -> ph ) ) $.", "ax1", "wi(wph,wi(wps,wph))", api.OK, api.OK},
		{"th $p |- ( ph -> ( ps -> ph ) ) $= ? $.", "any", "wi(wph,wi(wps,wph))", api.OK, api.OK},
		{"th $p |- ( ph -> ( ps -> ch ) ) $= ? $.", "ax1", "", unify.ErrClash, unify.ErrClash},
		{"th $p |- ( ph -> ph ) $= ? $.", id, "wi(wph,wi(wph,wph)) wi(wph,wi(wi(wph,wph),wph)) wi(wi(wph,wi(wi(wph,wph),wph)),wi(wi(wph,wi(wph,wph)),wi(wph,wph))) wi(wi(wph,wi(wph,wph)),wi(wph,wph)) wi(wph,wph)", api.OK, api.OK},
		{"th $p |- ( ph -> ph ) $= ? $.", "ax1 ; ax1 ; ax2 ; mp 1 2 ; mp 0 3", "", ErrOpen, ErrOpen},
		{"th $p |- ( ph -> ph ) $= ? $.", "ax1 ; mp 0 0", "", unify.ErrClash, unify.ErrClash},
		{"th $p |- ( ph -> ( ps -> ph ) ) $= ? $.", "ax1 ; mp 0 0 ; ax1", "", unify.ErrOccurs, unify.ErrOccurs},
		{"th $p |- ps $= ? $.", "any ; any ; mp 0 1", "", ErrOpen, ErrOpen},
		{"th $p |- ps $= ? $.", "any ; any", "", ErrOpen, ErrOpen},
		{"th $p |- ps $= ? $.", "any : |- T. ; any", "tru wps", api.OK, api.OK},
		{"th $p |- T. $= ? $.", "tt ; any ; keep 0 1", "", ErrOpen, ErrOpen},
		{"th $p |- T. $= ? $.", "tt ; gen 0 ; tt", "", ErrOpen, ErrOpen}, // the variable of the quantifier
		{"th $p |- A. x T. $= ? $.", "tt ; gen 0", "tru wal(tru,vx)", api.OK, api.OK},
		// hypotheses
		{"${ e $e |- ( ps -> ph ) $. f $e |- ps $. o2 $e wff ph $. th $p |- ph $= ? $. $}", "f ; e ; mp 0 1", "wps wi(wps,wph) wph", api.OK, api.OK},
		{"${ e $e |- ( ps -> ph ) $. f $e |- ps $. th $p |- ph $= ? $. $}", "f : |- ps ; e ; mp 0 1 : |- ph", "wps wi(wps,wph) wph", api.OK, api.OK},
		{"${ e $e |- ( ps -> ph ) $. f $e |- ps $. th $p |- ph $= ? $. $}", "f : |- ch ; e ; mp 0 1", "", unify.ErrClash, unify.ErrClash},
		{"${ e $e |- ph $. th $p |- ph $= ? $. $}", "e", "wph", api.OK, api.OK},
		{"${ e $e |- ph $. th $p |- ps $= ? $. $}", "e", "", unify.ErrClash, unify.ErrClash},
		{"${ e $e wff ph $. th $p |- ph $= ? $. $}", "e", "", api.ErrLabel, api.ErrLabel},
		// Texts
		{"th $p |- ( ph -> ( ps -> ph ) ) $= ? $.", "ax1 : |- ( ph -> ( ps -> ph ) )", "wi(wph,wi(wps,wph))", api.OK, api.OK},
		{"th $p |- ( ph -> ( ps -> ph ) ) $= ? $.", "ax1 : wff ( ph -> ( ps -> ph ) )", "wi(wph,wi(wps,wph))", api.OK, api.OK},
		{"th $p |- ( ph -> ( ps -> ph ) ) $= ? $.", "ax1 : |- ( ps -> ( ps -> ps ) )", "", unify.ErrClash, unify.ErrClash},
		{"th $p |- ( ph -> ( ps -> ph ) ) $= ? $.", "ax1 : set x", "", api.ErrType, api.ErrType},
		{"th $p |- ( ph -> ( ps -> ph ) ) $= ? $.", "ax1 : |- no", "", syntax.ErrParse, syntax.ErrParse},
		{"th $p |- ( ph -> ( ps -> ph ) ) $= ? $.", "any : no ph ; ax1 : |- no", "", api.ErrType, api.ErrType},
		// the errors of formulas, line by line, and the theorem's last
		{"bad $a |- = $. th $p |- T. T. $= ? $.", "tt : |- -. ; bad", "", syntax.ErrParse, syntax.ErrParse},
		{"t2 $a wff F. $. t3 $a wff F. $. amb $a |- F. $. th $p |- T. T. $= ? $.", "amb : no", "", syntax.ErrAmbiguous, syntax.ErrAmbiguous},
		{"t2 $a wff F. $. t3 $a wff F. $. amb $a |- F. $. th $p |- F. $= ? $.", "tt : no ; amb", "", api.ErrType, api.ErrType},
		{"t2 $a wff F. $. t3 $a wff F. $. th $p |- F. $= ? $.", "tt ; any : set = x", "", syntax.ErrParse, syntax.ErrParse},
		{"t2 $a wff F. $. t3 $a wff F. $. th $p |- F. $= ? $.", "ax1 ; mp 0 0", "", syntax.ErrAmbiguous, syntax.ErrAmbiguous},
		{"t2 $a wff F. $. t3 $a wff F. $. ${ e $e |- F. $. th $p |- = $= ? $. $}", "e : no", "", syntax.ErrAmbiguous, syntax.ErrAmbiguous},
		{"t2 $a wff F. $. t3 $a wff F. $. ${ e1 $e |- F. $. bad $a |- = $. $} th $p |- T. $= ? $.", "tt ; bad 0", "", syntax.ErrAmbiguous, syntax.ErrAmbiguous},
		// disjointness
		{"$d x ps $. th $p |- ( ps -> A. x ps ) $= ? $.", "ax5", "wi(wps,wal(wps,vx))", api.OK, api.OK},
		{"th $p |- ( ps -> A. x ps ) $= ? $.", "ax5", "wi(wps,wal(wps,vx))", api.OK, api.ErrApart},
		{"$d x y $. th $p |- ( x = y -> A. x x = y ) $= ? $.", "ax5", "wi(weq(vx,vy),wal(weq(vx,vy),vx))", api.OK, api.ErrApart},
		{"$d x y z $. th $p |- ( x = y -> A. z x = y ) $= ? $.", "ax5", "wi(weq(vx,vy),wal(weq(vx,vy),vz))", api.OK, api.OK},
		{"$d y z $. th $p |- ( x = y -> A. z x = y ) $= ? $.", "ax5", "wi(weq(vx,vy),wal(weq(vx,vy),vz))", api.OK, api.ErrApart},
		{"th $p |- ( T. -> A. x T. ) $= ? $.", "ax5", "wi(tru,wal(tru,vx))", api.OK, api.OK},
		{"th $p |- T. $= ? $.", "ax5 : |- ( x = x -> A. x x = x ) ; tt", "wi(weq(vx,vx),wal(weq(vx,vx),vx)) tru", api.OK, api.ErrApart}, // not needed
		{"$d x y $. th $p |- T. $= ? $.", "ax5 : |- ( y = z -> A. x y = z ) ; tt", "wi(weq(vy,vz),wal(weq(vy,vz),vx)) tru", api.OK, api.ErrApart},
		// the verdict
		{"${ $d x y $. wd $a wff A. x = y $. $} th $p |- A. x = y $= ? $.", "any", "wd(vx,vy)", api.OK, api.ErrApart},
		{"${ $d x y $. wd $a wff A. x = y $. $} $d x y $. th $p |- A. x = y $= ? $.", "any", "wd(vx,vy)", api.OK, api.OK},
		{"th $p |- F. $= ? $. late $a wff F. $.", "any", "late", api.OK, api.ErrLabel},
		{"th $p |- T. $= ? $. late $a wff F. $.", "any : |- F. ; tt", "late tru", api.OK, api.OK},
	} {
		db, i := with(t, x.s)
		l, e := Trees(db, i, lines(x.lines))
		if e != x.e || written(l) != x.trees {
			t.Errorf("%q by %q: %s, %d, want %s, %d", x.s, x.lines, written(l), e, x.trees, x.e)
		}
		p, e := Complete(db, i, lines(x.lines))
		if e != x.complete || e != api.OK && len(p.Steps) > 0 {
			t.Errorf("%q by %q: %v, %d, want %d", x.s, x.lines, p, e, x.complete)
		}
		if _, v, f := graph.Texts(db, i, p); e == api.OK && (f != api.OK || v != api.Verdict{}) {
			t.Errorf("%q by %q: %v, %v, %d", x.s, x.lines, p, v, f)
		}
	}
}

// P21.1: the errors of databases, numbers and lines, in their order, for all functions.
func TestErrors(t *testing.T) {
	db, i := with(t, "th0 $p wff T. $= tru $. ${ e $e |- ph $. w $e wff ph $. th $p |- T. $= tt $. $} last $a |- ph $.")
	var hundred []Line
	for range maxLines {
		hundred = append(hundred, Line{Label: "tt"})
	}
	hundred = slices.Clip(hundred)
	for name, x := range map[string]struct {
		db   api.Database
		i    int
		l    []Line
		want api.Errno
	}{
		"a wrong database":          {api.Database{Constants: []string{"$"}}, 0, nil, api.ErrForm},
		"a database of no axioms":   {api.Database{Variables: []string{"x"}}, 0, nil, api.ErrState},
		"nothing":                   {api.Database{}, 0, nil, api.ErrNone},
		"below 0":                   {db, -1, nil, api.ErrNone},
		"behind the last assertion": {db, len(db.Frames), nil, api.ErrNone},
		"another typecode":          {db, frame.Find(db, "th0"), nil, api.ErrState},
		"a syntax axiom":            {db, 0, nil, api.ErrState},
		"no lines":                  {db, i, nil, api.ErrSize},
		"100 lines":                 {db, i, hundred, api.OK},
		"101 lines":                 {db, i, append(hundred, Line{Label: "no"}), api.ErrSize},
		"no label":                  {db, i, lines("no 0"), api.ErrLabel},
		"an empty label":            {db, i, []Line{{}}, api.ErrLabel},
		"a syntax axiom's label":    {db, i, lines("tru 0"), api.ErrLabel},
		"a theorem of syntax":       {db, i, lines("th0 0"), api.ErrLabel},
		"a floating hypothesis":     {db, i, lines("wph"), api.ErrLabel},
		"another hypothesis":        {db, i, lines("w"), api.ErrLabel},
		"one of another assertion":  {db, i, lines("min"), api.ErrLabel},
		"a premise of syntax":       {db, i, lines("tt ; other 0"), api.ErrLabel},
		"the theorem itself":        {db, i, lines("th"), api.ErrLabel},
		"what stands behind":        {db, i, lines("last"), api.ErrLabel},
		"an Arg more":               {db, i, lines("tt 0"), api.ErrStack},
		"an Arg of a hypothesis":    {db, i, lines("tt ; e 0"), api.ErrStack},
		"an Arg less":               {db, i, lines("tt ; mp 7 ; no"), api.ErrStack},
		"an Arg too many":           {db, i, lines("tt ; mp 0 0 0"), api.ErrStack},
		"a line itself":             {db, i, lines("tt ; keep 0 1"), api.ErrRange},
		"a later line":              {db, i, lines("tt ; keep 2 0 ; tt"), api.ErrRange},
		"an Arg below 0":            {db, i, lines("tt ; keep 0 -1 ; no"), api.ErrRange},
		"the first error":           {db, i, lines("tt ; keep 0 0 ; mp 0 9 ; no : no"), api.ErrRange},
		"a line ahead of a formula": {db, i, lines("any : no ; no"), api.ErrLabel},
	} {
		if l, e := Trees(x.db, x.i, x.l); e != x.want || e != api.OK && l != nil {
			t.Errorf("%s: Trees: %v, %d, want %d", name, l, e, x.want)
		}
		if p, e := Complete(x.db, x.i, x.l); e != x.want || e != api.OK && len(p.Steps) > 0 {
			t.Errorf("%s: Complete: %v, %d, want %d", name, p, e, x.want)
		}
		want := x.want
		if x.i == i && len(x.db.Frames) > 0 {
			want = api.OK
		}
		if l, e := Strip(x.db, x.i, proof("tt")); e != want || e != api.OK && l != nil {
			t.Errorf("%s: Strip: %v, %d, want %d", name, l, e, want)
		}
		if ok, e := Verify(x.db, x.i); e != want || ok != (want == api.OK) {
			t.Errorf("%s: Verify: %t, %d, want %d", name, ok, e, want)
		}
	}
}

// P21.1: the lines of proofs, and the errors of Strip.
func TestStrip(t *testing.T) {
	const th = "th $p |- ( ps -> ( ph -> ps ) ) $= wps wph ax1 $. "
	const premises = "${ e $e |- ph $. f $e |- ( ph -> ps ) $. w $e wff ps $. th $p |- ps $= wph wps e f mp $. $} "
	large := api.Proof{Steps: slices.Repeat([]api.Step{{Label: "tt"}}, api.MaxSteps+1)}
	for name, x := range map[string]struct {
		s     string
		p     api.Proof
		lines string
		want  api.Errno
	}{
		"an axiom":                    {th, proof("wps wph ax1(0,1)"), "ax1 : |- ( ps -> ( ph -> ps ) )", api.OK},
		"shared":                      {th, proof("wps wps tt tt wph wph ax1(1,4)"), "ax1 : |- ( ps -> ( ph -> ps ) )", api.OK},
		"premises":                    {premises, proof("wph wps e f mp(0,1,2,3)"), "e : |- ph ; f : |- ( ph -> ps ) ; mp 0 1 : |- ps", api.OK},
		"in the order of Share":       {premises, proof("f e wps wph mp(3,2,1,0)"), "e : |- ph ; f : |- ( ph -> ps ) ; mp 0 1 : |- ps", api.OK},
		"equal lines":                 {premises, proof("wph wps e e f f mp(0,1,2,4) mp(0,1,3,5) keep(1,1,6,7)"), "e : |- ph ; f : |- ( ph -> ps ) ; mp 0 1 : |- ps ; keep 2 2 : |- ps", api.OK},
		"no steps":                    {th, api.Proof{}, "", api.ErrSize},
		"too many steps":              {th, large, "", api.ErrSize},
		"an Arg that is none":         {th, proof("wps wph ax1(0,2)"), "", api.ErrRange},
		"another formula":             {th, proof("wps wph ax1(1,0)"), "", api.ErrState},
		"an unknown step":             {th, proof("? wps wph ax1(1,2)"), "", api.ErrState},
		"a formula of syntax":         {th, proof("wph"), "", api.ErrState},
		"a premise of syntax":         {premises, proof("wps other(0,0)"), "", api.ErrState},
		"one that is not needed":      {premises, proof("wph wps e f other(1,1) mp(0,1,2,3)"), "", api.ErrState},
		"a hypothesis of syntax":      {premises, proof("wph w e f mp(0,1,2,3)"), "e : |- ph ; f : |- ( ph -> ps ) ; mp 0 1 : |- ps", api.OK},
		"wrong ahead of a premise":    {premises, proof("wps other(0,0) tru"), "", api.ErrState},
		"an Arg more of a hypothesis": {premises, proof("wph wps e(0) f mp(0,1,2,3)"), "", api.ErrState},
	} {
		db, i := with(t, x.s)
		var want []Line
		if x.want == api.OK {
			want = lines(x.lines)
		}
		l, e := Strip(db, i, x.p)
		if e != x.want || !sameLines(l, want) {
			t.Errorf("%s: %v, %d, want %v, %d", name, l, e, want, x.want)
		}
	}
	// 100 lines, and one more.
	for n, want := range map[int]api.Errno{maxLines - 1: api.OK, maxLines: api.ErrSize} {
		db, i := with(t, "th $p |- T. $= ? $.")
		p := proof("tt tru")
		for range n {
			p.Steps = append(p.Steps, api.Step{Label: "keep", Args: []int{1, 1, 0, len(p.Steps) - 1}})
			if len(p.Steps) == 3 {
				p.Steps[2].Args[3] = 0
			}
		}
		l, e := Strip(db, i, p)
		if e != want || (e == api.OK) != (len(l) == n+1) {
			t.Errorf("%d lines: %d, %d, want %d", n+1, len(l), e, want)
		}
		db.Frames[i].Proof, _ = graph.Labels(db, i, p)
		if ok, e := Verify(db, i); e != api.OK || ok != (want == api.OK) {
			t.Errorf("%d lines: %t, %d", n+1, ok, e)
		}
	}
}

// P21.1: what the third road accepts, and what it does not.
func TestVerify(t *testing.T) {
	for s, want := range map[string]bool{
		"th $p |- ( ps -> ( ph -> ps ) ) $= wps wph ax1 $.":                                                  true,
		"th $p |- ( ps -> ( ph -> ps ) ) $= ( ax1 ) BAC $.":                                                  true,
		"th $p |- ( ps -> ( ph -> ps ) ) $= wph wps ax1 $.":                                                  false,
		"th $p |- ( ps -> ( ph -> ps ) ) $= ? $.":                                                            false,
		"th $p |- ( ps -> ( ph -> ps ) ) $= $.":                                                              false,
		"${ e $e |- ph $. th $p |- ph $= e $. $}":                                                            true,
		"${ o3 $e wff ph $. th $p |- ph $= wph wph other $. $}":                                              false,
		"${ $d x y $. wd $a wff A. x = y $. $} $d x y $. th $p |- A. x = y $= vx vy wd any $.":               true,
		"wt $p wff ( T. -> T. ) $= tru tru wi $. th $p |- ( T. -> T. ) $= wt any $.":                         true,
		"${ $d x y $. wd $a wff A. x = y $. $} wd2 $a wff A. x = y $. th $p |- A. x = y $= vx vy wd2 any $.": false, // two trees
		"amb $a wff T. $. th $p |- ( ps -> ( ph -> ps ) ) $= wps wph ax1 $.":                                 true,
		"amb $a wff T. $. th $p |- T. $= tt $.":                                                              false,
		"${ s1 $e |- ph $. s2 $a wff F. $. $} th $p |- ph $= wph any $.":                                     true,
		"${ s1 $e |- ph $. s2 $a wff F. $. $} th $p |- F. $= wph wph any s2 any $.":                          false, // no tree
	} {
		db, i := with(t, s)
		if ok, e := Verify(db, i); e != api.OK || ok != want {
			t.Errorf("%q: %t, %d, want %t", s, ok, e, want)
		}
	}
	db, i := with(t, "th $a |- ph $.")
	if ok, e := Verify(db, i); e != api.ErrState || ok {
		t.Errorf("an axiom: %t, %d", ok, e)
	}
}

// P21.1: proofs of trees, and the errors of Build.
func TestBuild(t *testing.T) {
	db, _ := with(t, "")
	for s, want := range map[string]string{
		"wph":                        "wph",
		"tru":                        "tru",
		"vx":                         "vx",
		"wi(wph,wi(wps,wph))":        "wph wps wi(1,0) wi(0,2)",
		"wi(wn(wph),wn(wph))":        "wph wn(0) wi(1,1)",
		"wal(wal(weq(vy,vx),vx),vy)": "vy vx weq(0,1) wal(2,1) wal(3,0)",
	} {
		p, e := Build(db, tree(t, s))
		if e != api.OK || !sameProof(p, proof(want)) {
			t.Errorf("%s: %v, %d, want %s", s, p, e, want)
		}
	}
	deep := tree(t, "wph")
	for range 100 {
		deep = api.Tree{Label: "wn", Kids: []api.Tree{deep}}
	}
	many := api.Tree{Label: "wn", Kids: make([]api.Tree, api.MaxNodes)}
	for name, x := range map[string]struct {
		db   api.Database
		t    api.Tree
		want api.Errno
	}{
		"a wrong database":  {api.Database{Constants: []string{"$"}}, many, api.ErrForm},
		"a typecode":        {database(t, "$c |- $. $v x $. fx $f |- x $. a $a |- x $."), many, api.ErrType},
		"too large":         {db, many, api.ErrSize},
		"too deep":          {db, deep, api.ErrDepth},
		"as deep as may be": {db, deep.Kids[0], api.OK},
		"no tree":           {db, api.Tree{}, syntax.ErrTree},
		"no syntax axiom":   {db, tree(t, "ax1(wph,wps)"), syntax.ErrTree},
		"a work variable":   {db, api.Tree{Label: "&wff.0"}, syntax.ErrTree},
		"a wrong sort":      {db, tree(t, "wn(vx)"), syntax.ErrTree},
		"nothing":           {api.Database{}, api.Tree{}, syntax.ErrTree},
	} {
		if p, e := Build(x.db, x.t); e != x.want || (e == api.OK) != (len(p.Steps) > 0) {
			t.Errorf("%s: %d steps, %d, want %d", name, len(p.Steps), e, x.want)
		}
	}
}

// P21.1: assertions that stand ahead of all others.
func TestFirstAssertion(t *testing.T) {
	const floats = "$c wff |- T. $. $v ph $. wph $f wff ph $. "
	for s, want := range map[string]bool{
		"any $a |- ph $. th $p |- ph $= wph any $.":                                                          true,
		"${ e $e |- ph $. same $a |- ph $. $} tru $a wff T. $. tt $a |- T. $. th $p |- T. $= tru tt same $.": true,
		"${ o $e wff ph $. other $a |- ph $. $} th $p |- ph $= wph wph other $.":                             false,
		"${ o $e wff ph $. other $a |- ph $. $} th0 $p |- ph $= wph wph other $. th $p |- ph $= wph th0 $.":  true,
		"${ e $e |- ph $. th $p |- ph $= e $. $}":                                                            true,
	} {
		db := database(t, floats+s)
		i := frame.Find(db, "th")
		if ok, e := Verify(db, i); e != api.OK || ok != want {
			t.Errorf("%q: %t, %d, want %t", s, ok, e, want)
		}
	}
	db := database(t, floats+"${ o $e wff ph $. other $a |- ph $. $} th $p |- ph $= wph wph other $.")
	if l, e := Strip(db, 1, proof("wph other(0,0)")); e != api.ErrState || l != nil {
		t.Errorf("%v, %d", l, e)
	}
	db = database(t, floats+"any $a |- ph $. th $p |- ph $= ? $.")
	p, e := Complete(db, 1, lines("any"))
	if e != api.OK || !sameProof(p, proof("wph any(0)")) {
		t.Errorf("%v, %d", p, e)
	}
}
