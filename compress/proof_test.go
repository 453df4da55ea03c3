package compress

import (
	"math/rand"
	"slices"
	"strings"
	"testing"

	"apodixis/api"
	"apodixis/frame"
	"apodixis/layout"
)

// database returns the database of a text.
func database(t *testing.T, s string) api.Database {
	t.Helper()
	l, _, e := layout.Parse(strings.Fields(s))
	db, _, f := frame.Database(l)
	if e != api.OK || f != api.OK {
		t.Fatalf("%q: %d, %d", s, e, f)
	}
	return db
}

// logic has assertions with 2, 4, 2, 0, 1 and 2 hypotheses; behind them come the theorem t, with the mandatory hypotheses wp, wq and h, and late.
const logic = `$c wff |- ( ) -> $. $v p q r $. wp $f wff p $. wq $f wff q $. wr $f wff r $.
wi $a wff ( p -> q ) $. ${ m $e |- p $. j $e |- ( p -> q ) $. mp $a |- q $. $}
a1 $a |- ( p -> ( q -> p ) ) $. none $a |- ( $. one $a wff p $. two $a |- p q $. `

const number = 6

func theorem(t *testing.T, proof string) api.Database {
	t.Helper()
	return database(t, logic+"${ h $e |- p $. t $p |- ( q -> p ) $= "+proof+" $. $} late $a |- p $.")
}

// proof returns the proof that "a; b 0 0; c 1" writes.
func proof(s string) api.Proof {
	var p api.Proof
	for _, part := range strings.Split(s, ";") {
		l := strings.Fields(part)
		x := api.Step{Label: l[0]}
		for _, a := range l[1:] {
			x.Args = append(x.Args, int(a[0]-'0'))
		}
		p.Steps = append(p.Steps, x)
	}
	return p
}

func sameProof(p, q api.Proof) bool {
	return slices.EqualFunc(p.Steps, q.Steps, func(x, y api.Step) bool {
		return x.Label == y.Label && slices.Equal(x.Args, y.Args)
	})
}

func verdict(code api.Errno, step int) api.Verdict { return api.Verdict{Code: code, Step: step} }

// P8.1: the graphs of compressed proofs.
func TestDecode(t *testing.T) {
	for words, want := range map[string]string{
		"( ) A":                           "wp",
		"( wr ) D":                        "wr",
		"( none ) D":                      "none",
		"( wi ) ABD":                      "wp; wq; wi 0 1",
		"( wi ) AAD":                      "wp; wp; wi 0 1",
		"( wi ) AZED":                     "wp; wi 0 0",
		"( wi ) AZEZD":                    "wp; wi 0 0",
		"( wi ) ABDZE D":                  "wp; wq; wi 0 1; wi 2 2",
		"( wi ) ABDZABDED":                "",
		"( wi ) ABDZEZFD D":               "wp; wq; wi 0 1; wi 2 2; wi 2 3",
		"( wi a1 mp ) ABADCABEF":          "wp; wq; wp; wi 1 2; h; wp; wq; a1 5 6; mp 0 3 4 7",
		"( one ) ADDD":                    "wp; one 0; one 1; one 2",
		"( a1 wr none two ) ABDZEZGHDEZG": "wp; wq; a1 0 1; wr; two 2 3; a1 4 2; wr; two 5 6",
	} {
		p, v, e := Decode(theorem(t, words), number)
		if want == "" {
			if e != api.OK || v.Code != api.ErrStack || p.Steps != nil {
				t.Errorf("Decode of %q: %v, %v, %d", words, p, v, e)
			}
		} else if e != api.OK || v != (api.Verdict{}) || !sameProof(p, proof(want)) {
			t.Errorf("Decode of %q: %v, %v, %d", words, p, v, e)
		}
	}
}

// P8.1: the verdicts of Decode in their order.
func TestVerdicts(t *testing.T) {
	most := strings.Repeat("A", api.MaxSteps)
	letters := strings.Repeat("A", api.MaxSource)
	for _, x := range []struct {
		words string
		want  api.Verdict
	}{
		{"( wi", verdict(api.ErrList, 0)},
		{"( wi wi ) A", verdict(api.ErrList, 0)},
		{"( ? ) A", verdict(api.ErrList, 0)},
		{"( h ) A", verdict(api.ErrList, 0)},
		{"( wi wq ) a", verdict(api.ErrList, 0)}, // ahead of ErrCode
		{"( wi wi ) a", verdict(api.ErrList, 0)},
		{"( wp ) A" + most, verdict(api.ErrList, 0)},
		{"( ) a", verdict(api.ErrCode, 0)},
		{"( ) AU", verdict(api.ErrCode, 0)},
		{"( ) D", verdict(api.ErrCode, 0)},
		{"( wi ) ABDZF", verdict(api.ErrCode, 0)},
		{"( ) ?E", verdict(api.ErrCode, 0)}, // ahead of ErrUnknown
		{"( ) A" + most + "D", verdict(api.ErrCode, 0)},
		{"( ) A" + letters, verdict(api.ErrSize, 0)},
		{"( ) Z" + letters, verdict(api.ErrSize, 0)},
		{"( h ) A" + letters, verdict(api.ErrSize, 0)}, // an error of Read comes ahead of those of Items
		{"( h ) Z" + letters, verdict(api.ErrSize, 0)},
		{"( h h ) A" + letters, verdict(api.ErrList, 0)},
		{"( h ) A" + letters[:len(letters)-1], verdict(api.ErrList, 0)},
		{"( ) A" + most, verdict(api.ErrSteps, 0)},
		{"( ) ?" + most, verdict(api.ErrSteps, 0)},
		{"( ) " + most, verdict(api.ErrStack, api.MaxSteps)},
		{"( ) A?", verdict(api.ErrUnknown, 1)},
		{"( no ) A?D", verdict(api.ErrUnknown, 1)},
		{"( no ) AD?", verdict(api.ErrLabel, 1)},
		{"( no ) A", verdict(api.OK, 0)},
		{"( t ) D", verdict(api.ErrLabel, 0)},
		{"( late ) AD", verdict(api.ErrLabel, 1)},
		{"( m ) D", verdict(api.ErrLabel, 0)}, // of another frame
		{"( wi ) D", verdict(api.ErrStack, 0)},
		{"( wi ) AD?", verdict(api.ErrStack, 1)},
		{"( mp ) ABCD", verdict(api.ErrStack, 3)},
		{"( )", verdict(api.ErrStack, 0)},
		{"( wi )", verdict(api.ErrStack, 0)},
		{"( ) AB", verdict(api.ErrStack, 2)},
		{"( ) AZD", verdict(api.ErrStack, 2)},
		{"( wi ) ABDA", verdict(api.ErrStack, 4)},
		{"( wi ) ABDZE", verdict(api.ErrStack, 4)},
	} {
		p, v, e := Decode(theorem(t, x.words), number)
		if e != api.OK || v != x.want || v.Code != api.OK && p.Steps != nil {
			t.Errorf("Decode of %.60q: %v, %v, %d, want %v", x.words, p, v, e, x.want)
		}
		if is, e := Canonical(theorem(t, x.words), number); e != api.OK || is != (x.want == api.Verdict{}) && is {
			t.Errorf("Canonical of %.60q: %t, %d", x.words, is, e)
		}
	}
}

// P8.1: the errors of functions with a database, in their order.
func TestErrors(t *testing.T) {
	db := theorem(t, "( wi ) ABD")
	normal := theorem(t, "wp wq wi")
	wrong := api.Database{Frames: []api.Frame{{}}}
	right := proof("wp; wq; wi 0 1")
	for name, x := range map[string]struct {
		db             api.Database
		i              int
		p              api.Proof
		decode, encode api.Errno
	}{
		"a theorem":            {db, number, right, api.OK, api.OK},
		"a normal proof":       {normal, number, right, api.ErrArg, api.OK},
		"an empty proof":       {theorem(t, ""), number, right, api.ErrArg, api.OK},
		"an axiom":             {db, 1, right, api.ErrArg, api.ErrArg},
		"the first one":        {db, 0, right, api.ErrArg, api.ErrArg},
		"an axiom and no form": {db, 1, api.Proof{}, api.ErrArg, api.ErrArg},
		"no form":              {db, number, api.Proof{}, api.OK, api.ErrForm},
		"an index below 0":     {db, -1, right, api.ErrRange, api.ErrRange},
		"an index behind":      {db, number + 2, api.Proof{}, api.ErrRange, api.ErrRange},
		"the last one":         {db, number + 1, right, api.ErrArg, api.ErrArg},
		"a wrong database":     {wrong, 0, right, api.ErrForm, api.ErrForm},
		"wrong, no such frame": {wrong, -1, api.Proof{}, api.ErrForm, api.ErrForm},
		"no frames":            {api.Database{}, 0, right, api.ErrRange, api.ErrRange},
	} {
		p, v, e := Decode(x.db, x.i)
		if e != x.decode || v != (api.Verdict{}) || e != api.OK && p.Steps != nil {
			t.Errorf("%s: Decode: %v, %v, %d", name, p, v, e)
		}
		if is, e := Canonical(x.db, x.i); e != x.decode || is != (e == api.OK) {
			t.Errorf("%s: Canonical: %t, %d", name, is, e)
		}
		if c, e := Encode(x.db, x.i, x.p); e != x.encode || e != api.OK && !sameCode(c, Code{}) {
			t.Errorf("%s: Encode: %v, %d", name, c, e)
		}
		if l, e := Proof(x.db, x.i, x.p); e != x.encode || e != api.OK && l != nil {
			t.Errorf("%s: Proof: %v, %d", name, l, e)
		}
	}
}

// P8.1: which proofs are well-formed.
func TestForm(t *testing.T) {
	db := theorem(t, "?")
	long := func(n int) api.Proof { return api.Proof{Steps: slices.Repeat(proof("wp").Steps, n)} }
	for _, x := range []struct {
		p    api.Proof
		want api.Errno
	}{
		{api.Proof{}, api.ErrForm},
		{long(api.MaxSteps), api.OK},
		{long(api.MaxSteps + 1), api.ErrForm},
		{proof("wr"), api.OK},
		{proof("none"), api.OK},
		{proof("h"), api.OK},
		{proof("wp; wp 0"), api.ErrForm},
		{proof("wp; none 0"), api.ErrForm},
		{proof("wp; wi 0"), api.ErrForm},
		{proof("wp; wi 0 0 0"), api.ErrForm},
		{proof("wi"), api.ErrForm},
		{proof("?"), api.ErrForm},
		{proof(")"), api.ErrForm},
		{proof("t"), api.ErrForm},
		{proof("late"), api.ErrForm},
		{proof("m"), api.ErrForm},
		{proof("wp; wi 0 1"), api.ErrForm},
		{proof("wp; wi 0 2; wp"), api.ErrForm},
		{proof("wi 0 0"), api.ErrForm},
		{proof("no; wp"), api.ErrForm}, // though it is not needed
		{api.Proof{Steps: []api.Step{{Label: "wp"}, {Label: "wi", Args: []int{0, -1}}}}, api.ErrForm},
		{api.Proof{Steps: []api.Step{{Label: ""}}}, api.ErrForm},
	} {
		if c, e := Encode(db, number, x.p); e != x.want || e != api.OK && !sameCode(c, Code{}) {
			t.Errorf("%.5v: %v, %d, want %d", x.p.Steps, c, e, x.want)
		}
	}
}

// P8.1: the codes of proofs.
func TestEncode(t *testing.T) {
	db := theorem(t, "?")
	for _, x := range []struct{ proof, labels, letters string }{
		{"wp", "", "A"},
		{"h", "", "C"},
		{"wr", "wr", "D"},
		{"none", "none", "D"},
		{"wq; wp; wi 1 0; wr; a1 2 3", "wi wr a1", "ABDEF"},
		{"wp; wi 0 0; wi 1 1", "wi", "AADZED"},
		{"wp; wp; wi 0 1; wi 0 1; wi 2 3", "wi", "AADAADD"},                   // equal steps are not the same one
		{"wr; wi 0 0; wr; wi 1 2; wi 1 3; a1 4 3", "wr wi a1", "DDEZGDEZEHF"}, // two saved ones
		{"none; two 0 0; two 0 1", "none two", "DDDEE"},                       // without arguments none is saved
		{"wp; one 0; one 1; one 0", "one", "AD"},                              // a step that is not needed does not count
		{"wp; one 0; wi 1 1; one 1", "one", "ADD"},
		{"wp; one 0; one 1; wi 1 2", "one wi", "ADZFDE"},
	} {
		l, e := Proof(db, number, proof(x.proof))
		if words := strings.Fields("( " + x.labels + " ) " + x.letters); e != api.OK || !slices.Equal(l, words) {
			t.Errorf("Proof of %q: %q, %d, want %q", x.proof, l, e, words)
		}
	}
	// each one but the first is the argument of two, with one label: the last number is that of the item ahead
	p := proof("wp; wi 0 0")
	for len(p.Steps) < 700 {
		p.Steps = append(p.Steps, api.Step{Label: "wi", Args: []int{len(p.Steps) - 1, len(p.Steps) - 1}})
	}
	c, e := Encode(db, number, p)
	if e != api.OK || len(c.Numbers) != 3+3*698 || c.Numbers[len(c.Numbers)-2] != 3+1+698 || !slices.Equal(c.Labels, []string{"wi"}) {
		t.Errorf("a long proof: %d, %v, %d", len(c.Numbers), c.Labels, e)
	}
	l, e := Proof(db, number, p)
	for i, w := range l {
		if i > 2 && i < len(l)-1 && len(w) != 60 || len(w) > 60 {
			t.Errorf("the word %d is %q", i, w)
		}
	}
	if e != api.OK || len(l) < 10 {
		t.Errorf("a long proof: %q, %d", l, e)
	}
}

// P8.1: at most MaxSteps numbers other than Save are emitted.
func TestEncodeLimit(t *testing.T) {
	// 40 hypotheses make a step emit 40 numbers
	s := "$c wff $. "
	for _, v := range names("v", api.MaxHyps) {
		s += "$v " + v + " $. f" + v + " $f wff " + v + " $. "
	}
	all := strings.Join(names("v", api.MaxHyps), " ")
	db := database(t, s+"big $a wff "+all+" $. one $a wff v0 $. t $p wff v0 $= ? $.")
	p := api.Proof{Steps: []api.Step{{Label: "fv0"}}}
	for range 48 {
		p.Steps = append(p.Steps, api.Step{Label: "big", Args: slices.Repeat([]int{len(p.Steps) - 1}, api.MaxHyps)})
	}
	for _, x := range []struct {
		more int
		want api.Errno
	}{{0, api.OK}, {79, api.OK}, {80, api.ErrSteps}, {200, api.ErrSteps}} { // 1 + 48 * 40 + 79 = 2000
		q := api.Proof{Steps: slices.Clone(p.Steps)}
		for range x.more {
			q.Steps = append(q.Steps, api.Step{Label: "one", Args: []int{len(q.Steps) - 1}})
		}
		c, e := Encode(db, 2, q)
		count := len(slices.DeleteFunc(slices.Clone(c.Numbers), func(n int) bool { return n == Save }))
		if e != x.want || e == api.OK && count != 1+48*40+x.more || e != api.OK && count != 0 {
			t.Errorf("%d steps more: %d numbers, %d", x.more, count, e)
		}
	}
}

// P8.1: which words are canonical.
func TestCanonical(t *testing.T) {
	full := strings.Repeat("D", 58)
	for words, want := range map[string]bool{
		"( ) A": true, "( wi ) ABD": true, "( wi ) A BD": false, "( wi ) AB D": false, "( wi a1 ) ABD": false, "( a1 wi ) ABE": false,
		"( wi ) AADZED": true, "( wi ) AADZEED": false, "( wi ) AAD": true, "( wi ) AZED": false, "( wi ) ABDZ": false, "( wi ) ABDZEED": false,
		"( one ) AD": true, "( one ) ADDDDD": true, "( none two ) DDE": true, "( none two ) DZFE": false,
		"( wi ) AADZED D": false, "( one wi ) ADE": false, "( one wi ) ADZFE": true, "( wi one ) AEZFD": false, "( wi ) AADAADD": true,
		"( one ) A" + full: true, "( one ) AD" + full: true, "( one ) AD" + full + " D": true, "( one ) AD" + full + "D": false, "( one ) A" + full + " DD": false,
		"( one wi ) AD" + full[1:] + "Z FE": true, "( one wi ) AD" + full[1:] + "ZF E": false, "( one wi ) AD" + full[2:] + "ZF E": true, "( one wi ) AD" + full[2:] + "ZFE": false,
	} {
		db := theorem(t, words)
		is, e := Canonical(db, number)
		p, v, f := Decode(db, number)
		if e != api.OK || f != api.OK {
			t.Fatalf("%q: %d, %d", words, e, f)
		}
		if v.Code != api.OK {
			if is {
				t.Errorf("%q is canonical, though it is %v", words, v)
			}
			continue
		}
		l, _ := Proof(db, number, p)
		if is != want || is != slices.Equal(l, strings.Fields(words)) {
			t.Errorf("%q: %t, as Proof is %q", words, is, l)
		}
	}
}

// randomGraph returns a well-formed proof of the frame i.
func randomGraph(r *rand.Rand, db api.Database, i int) api.Proof {
	var p api.Proof
	for range 1 + r.Intn(12) {
		x := api.Step{Label: []string{"wp", "wq", "wr", "h", "none"}[r.Intn(5)]}
		if len(p.Steps) > 0 && r.Intn(3) > 0 {
			f := db.Frames[r.Intn(i)]
			x.Label = f.Label
			for range f.Hyps {
				x.Args = append(x.Args, max(r.Intn(len(p.Steps)), r.Intn(len(p.Steps))))
			}
		}
		p.Steps = append(p.Steps, x)
	}
	return p
}

// tree writes the tree of a step.
func tree(p api.Proof, s int) string {
	x := p.Steps[s].Label + "("
	for _, a := range p.Steps[s].Args {
		x += tree(p, a)
	}
	return x + ")"
}

// modelled returns the letters of a proof as words: labels, Z, and #s for the step s that was saved.
func modelled(p api.Proof) []string {
	reached := map[int]bool{}
	todo := []int{len(p.Steps) - 1}
	uses := map[int]int{}
	for len(todo) > 0 {
		s := todo[0]
		todo = todo[1:]
		if reached[s] {
			continue
		}
		reached[s] = true
		for _, a := range p.Steps[s].Args {
			uses[a]++
			todo = append(todo, a)
		}
	}
	var words []string
	done := map[int]int{}
	var visit func(s int)
	visit = func(s int) {
		if done[s] > 0 {
			words = append(words, "#"+strings.Repeat("i", done[s]))
			return
		}
		for _, a := range p.Steps[s].Args {
			visit(a)
		}
		words = append(words, p.Steps[s].Label)
		if uses[s] >= 2 && len(p.Steps[s].Args) > 0 {
			words = append(words, "Z")
			done[s] = len(done) + 1
		}
	}
	visit(len(p.Steps) - 1)
	return words
}

// spelled returns the code of such words.
func spelled(f api.Frame, words []string) Code {
	var known []string
	for _, h := range f.Hyps {
		known = append(known, h.Label)
	}
	for _, w := range words {
		if w != "Z" && w[0] != '#' && !slices.Contains(known, w) {
			known = append(known, w)
		}
	}
	c := Code{Labels: known[len(f.Hyps):]}
	for _, w := range words {
		switch {
		case w == "Z":
			c.Numbers = append(c.Numbers, Save)
		case w[0] == '#':
			c.Numbers = append(c.Numbers, len(known)+len(w)-1)
		default:
			c.Numbers = append(c.Numbers, slices.Index(known, w)+1)
		}
	}
	return c
}

// P8.1, P8.4, P8.5: random proofs, encoded, written and decoded again.
func TestRandom(t *testing.T) {
	r := rand.New(rand.NewSource(84))
	for range 4000 {
		db := theorem(t, "?")
		p := randomGraph(r, db, number)
		c, e := Encode(db, number, p)
		if e != api.OK || !sameCode(c, spelled(db.Frames[number], modelled(p))) {
			t.Fatalf("Encode of %v: %v, %d", p, c, e)
		}
		words, e := Proof(db, number, p)
		back, f := Read(words)
		if e != api.OK || f != api.OK || !sameCode(back, c) {
			t.Fatalf("Proof of %v: %q, %d", p, words, e)
		}
		db.Frames[number].Proof = words
		if is, e := Canonical(db, number); e != api.OK || !is {
			t.Fatalf("%q of %v is not canonical: %d", words, p, e)
		}
		q, v, e := Decode(db, number)
		if e != api.OK || v != (api.Verdict{}) || tree(q, len(q.Steps)-1) != tree(p, len(p.Steps)-1) {
			t.Fatalf("Decode of %q: %v, %v, %d, want the tree of %v", words, q, v, e, p)
		}
		if d, e := Encode(db, number, q); e != api.OK || !sameCode(c, d) { // P8.4, and P8.5: it is well-formed
			t.Fatalf("Encode of %v: %v, %d, want %v", q, d, e, c)
		}
	}
}

// P8.5: what Decode returns of any code is well-formed, and its steps are the labels of the code.
func TestCodes(t *testing.T) {
	r := rand.New(rand.NewSource(85))
	decoded := 0
	for range 30000 {
		letters := ""
		for range 1 + r.Intn(9) {
			letters += string("ABCDEFGHIJZZ"[r.Intn(12)])
		}
		db := theorem(t, "( one none wi wr ) "+letters)
		p, v, e := Decode(db, number)
		if e != api.OK {
			t.Fatalf("%s: %d", letters, e)
		}
		if v != (api.Verdict{}) {
			continue
		}
		decoded++
		c, e := Encode(db, number, p)
		if e != api.OK {
			t.Fatalf("Encode of %v: %v, %d", p, c, e)
		}
		items, _ := Items(db.Frames[number], Code{Labels: strings.Fields("one none wi wr"), Numbers: numbersOf(letters)})
		items = slices.DeleteFunc(items, func(x Item) bool { return x.Back >= 0 })
		if !slices.EqualFunc(items, p.Steps, func(x Item, y api.Step) bool { return x.Label == y.Label }) {
			t.Fatalf("%s: %v, of the items %v", letters, p, items)
		}
	}
	if decoded < 200 {
		t.Errorf("only %d codes are right", decoded)
	}
}

func numbersOf(letters string) []int {
	l, _, _ := Numbers(letters)
	return l
}

// P8.1: no argument is changed, nor what lies behind a list's end, and what is returned is new.
func TestMemory(t *testing.T) {
	words := append(make([]string, 0, 9), "(", "wi", ")", "AADZED")
	db := theorem(t, "?")
	db.Frames[number].Proof = words
	p := proof("wp; wi 0 0; wi 1 1")
	p.Steps[1].Args = append(make([]int, 0, 9), 0, 0)
	labels := append(make([]string, 0, 9), "wi")
	c := Code{labels, append(make([]int, 0, 9), 1, 1, 4)}
	for range 2 {
		got, _ := Read(words)
		got.Labels[0] = "changed"
		_ = append(got.Labels, "changed")
		l, _ := Write(c, 60)
		l[1] = "changed"
		_ = append(l[:2], "changed")
		Items(db.Frames[number], c)
		q, _, _ := Decode(db, number)
		args := q.Steps[len(q.Steps)-1].Args
		args[0] = 9
		_ = append(args, 9)
		code, e := Encode(db, number, p)
		if e != api.OK {
			t.Fatal(e)
		}
		code.Labels[0] = "changed"
		Canonical(db, number)
	}
	if !slices.Equal(words[:5], []string{"(", "wi", ")", "AADZED", ""}) || !slices.Equal(labels[:2], []string{"wi", ""}) || !slices.Equal(c.Numbers[:4], []int{1, 1, 4, 0}) || !slices.Equal(p.Steps[1].Args[:3], []int{0, 0, 0}) || !sameProof(p, proof("wp; wi 0 0; wi 1 1")) {
		t.Errorf("arguments changed: %q, %q, %v, %v", words[:5], labels[:2], c.Numbers[:4], p)
	}
}
