package verify

import (
	"math/bits"
	"slices"
	"strconv"
	"strings"
	"testing"

	"apodixis/api"
	"apodixis/frame"
	"apodixis/layout"
)

// database returns the database of a text.
func database(t *testing.T, s string) api.Database {
	t.Helper()
	l, _, e := layout.Parse(strings.Fields(s))
	db, _, f := frame.Database(l)
	if e != api.OK || f != api.OK {
		t.Fatalf("%q: %d, %d", s, e, f)
	}
	return db
}

// logic has variables of two types, all of which are active, and axioms for each error of a step.
const logic = `$c wff set |- ( ) -> = $. $v p q r x y $.
wp $f wff p $. wq $f wff q $. wr $f wff r $. vx $f set x $. vy $f set y $.
wi $a wff ( p -> q ) $. ${ m $e |- p $. j $e |- ( p -> q ) $. mp $a |- q $. $}
a1 $a |- ( p -> ( q -> p ) ) $. ${ $d x p $. $d x y $. ax $a |- ( x = y -> p ) $. $}
emp $a |- = $. ex $a wff x $. x2 $a wff p p $. x3 $a wff p p ( $. eq $a |- ( = p ) $.
${ $d p x $. k $e |- ( = p ) $. big $a |- p p x $. $}
${ n $e |- p $. $v s $. ws $f wff s $. back $a |- s $. $} `

// number is that of the first assertion behind logic.
const number = 11

// theorem is a database of logic with the theorem t, which has the premise h, is of p and q, and has the number number.
func theorem(t *testing.T, formula, proof string) api.Database {
	t.Helper()
	return database(t, logic+"${ h $e |- ( q -> p ) $. t $p "+formula+" $= "+proof+" $. $} late $a |- p $.")
}

func verdict(code api.Errno, step int) api.Verdict { return api.Verdict{Code: code, Step: step} }

// sized returns a normal proof of wff and size symbols, all made of what begin proves.
func sized(begin string, size int) string {
	for bit := bits.Len(uint(size)) - 2; bit >= 0; bit-- {
		if size>>bit&1 == 0 {
			begin += " x2"
		} else {
			begin += " x3"
		}
	}
	return begin
}

// words returns how many words a proof has.
func words(proof string) int { return len(strings.Fields(proof)) }

// P7.1: verdicts of normal proofs, with each error, and which of several comes first.
func TestNormal(t *testing.T) {
	for _, x := range []struct {
		formula, proof string
		want           api.Verdict
	}{
		{"|- ( q -> p )", "h", verdict(api.OK, 0)},
		{"|- ( p -> ( q -> p ) )", "wp wq a1", verdict(api.OK, 0)},
		{"|- =", "emp", verdict(api.OK, 0)},
		{"|- ( x = y -> q )", "vx vy wq ax", verdict(api.ErrKind, 3)}, // its hypotheses are wp, vx and vy
		{"|- ( x = y -> q )", "wq vx vy ax", verdict(api.ErrApart, 3)},
		{"wff r", "wr", verdict(api.OK, 0)},
		{"wff p p", "wp x2", verdict(api.OK, 0)},
		{"|- ( q -> p )", "", verdict(api.ErrStack, 0)},
		{"|- ( q -> p )", "h h", verdict(api.ErrStack, 2)},
		{"|- ( q -> p )", "wp", verdict(api.ErrProves, 1)},
		{"|- ( p -> q )", "h", verdict(api.ErrProves, 1)},
		{"|- ( q -> p )", "?", verdict(api.ErrUnknown, 0)},
		{"|- ( q -> p )", "h ? no", verdict(api.ErrUnknown, 1)},
		{"|- ( q -> p )", "h no ?", verdict(api.ErrLabel, 1)},
		{"|- ( q -> p )", "t", verdict(api.ErrLabel, 0)},
		{"|- ( q -> p )", "late", verdict(api.ErrLabel, 0)},
		{"|- ( q -> p )", "m", verdict(api.ErrLabel, 0)}, // of another assertion
		{"|- ( q -> p )", "h )", verdict(api.ErrLabel, 1)},
		{"|- ( q -> p )", "h (", verdict(api.ErrLabel, 1)},
		{"|- ( q -> p )", "h ??", verdict(api.ErrLabel, 1)},
		{"|- ( q -> p )", ") ( wi ) h", verdict(api.ErrLabel, 0)},
		{"|- ( q -> p )", "a1", verdict(api.ErrStack, 0)},
		{"|- ( q -> p )", "h a1", verdict(api.ErrStack, 1)},
		{"|- ( q -> p )", "wp h a1", verdict(api.ErrKind, 2)},
		{"|- ( q -> p )", "h wp a1", verdict(api.ErrKind, 2)},
		{"|- ( q -> p )", "wp wq vx vy mp", verdict(api.ErrMatch, 4)},
		{"|- p", "wp vx h h mp", verdict(api.ErrKind, 4)},
		{"|- p", "wp wq h h mp", verdict(api.ErrMatch, 4)},
		{"|- p", "wq wp wq wp wi h mp", verdict(api.ErrMatch, 6)},
		{"|- p", "wq wp wq h mp", verdict(api.ErrMatch, 4)},
		{"|- ( r -> ( q -> p ) )", "wq wp wi wr wq wp wi wi h wq wp wi wr a1 mp", verdict(api.OK, 0)},
		{"|- ( q -> ( q -> p ) )", "wq wp wi wr wq wp wi wi h wq wp wi wr a1 mp", verdict(api.ErrProves, 15)},
		{"|- ( r -> ( q -> p ) )", "wq wp wi wr wq wp wi wi h wq wp wi wq a1 mp", verdict(api.ErrMatch, 14)},
		{"|- ( q -> p )", "wp vx vx ax", verdict(api.ErrApart, 3)},
		{"|- ( q -> p )", "wp vx vy ax ?", verdict(api.ErrApart, 3)},
		{"|- ( q -> p )", "vx vx ax", verdict(api.ErrStack, 2)},
	} {
		db := theorem(t, x.formula, x.proof)
		if v, e := Theorem(db, number); e != api.OK || v != x.want {
			t.Errorf("%q by %q: %v, %d, want %v", x.formula, x.proof, v, e, x.want)
		}
		if v, e := Proof(theorem(t, x.formula, "?"), number, strings.Fields(x.proof)); e != api.OK || v != x.want {
			t.Errorf("%q by the other proof %q: %v, %d, want %v", x.formula, x.proof, v, e, x.want)
		}
	}
	for _, words := range [][]string{{""}, {"h\n"}, {" ("}, {"wi x"}} { // as no text has them
		if v, e := Proof(theorem(t, "|- p", "?"), number, words); e != api.OK || v != verdict(api.ErrLabel, 0) {
			t.Errorf("%q: %v, %d", words, v, e)
		}
	}
}

// P7.1: formulas of MaxFormula symbols, and which of several errors of one step comes first.
func TestSteps(t *testing.T) {
	const most = api.MaxFormula - 1 // without the typecode
	large := sized("vx ex", 1500)
	for _, x := range []struct {
		proof string
		code  api.Errno // of the last step; behind it there is ErrProves
	}{
		{sized("wp", most), api.OK},
		{sized("wp", most+1), api.ErrLarge},
		{sized("wp", 996) + " " + sized("wq", 1000) + " wi", api.OK}, // 3 more, and the typecode
		{sized("wp", 997) + " " + sized("wq", 1000) + " wi", api.ErrLarge},
		{"wp vx wp eq big", api.OK},
		{"wp vx wq eq big", api.ErrMatch},
		{"vx ex vx vx ex eq big", api.ErrApart},
		{"vx ex vy vx ex eq big", api.OK},
		{large + " vy " + large + " eq big", api.ErrLarge},
		{large + " vx " + large + " eq big", api.ErrLarge}, // and ErrApart
		{large + " vx wp eq big", api.ErrMatch},            // and both
		{large + " wp wp eq big", api.ErrKind},             // and all
		{"wp emp wp back", api.ErrMatch},
		{"wp h wp back", api.ErrMatch},
		{"wp emp vx back", api.ErrKind}, // though the premise stands ahead of the floating hypothesis
		{"vx emp vx back", api.ErrKind},
		{"emp vx back", api.ErrStack},
	} {
		want := verdict(x.code, words(x.proof)-1)
		if x.code == api.OK {
			want = verdict(api.ErrProves, words(x.proof))
		}
		db := database(t, logic+"${ $d x y p $. h $e |- ( q -> p ) $. t $p |- p $= "+x.proof+" $. $}")
		if v, e := Theorem(db, number); e != api.OK || v != want {
			t.Errorf("%q: %v, %d, want %v", x.proof, v, e, want)
		}
	}
}

// P7.1: disjointness of dummy variables, and what a theorem permits beside it.
func TestApart(t *testing.T) {
	for _, x := range []struct {
		pairs, formula, proof string
		want                  api.Verdict
	}{
		{"$d x y $. $d p x $.", "|- ( x = y -> p )", "wp vx vy ax", verdict(api.OK, 0)},
		{"$d x y p $.", "|- ( x = y -> p )", "wp vx vy ax", verdict(api.OK, 0)},
		{"$d x y $.", "|- ( x = y -> p )", "wp vx vy ax", verdict(api.ErrApart, 3)},
		{"$d p x $.", "|- ( x = y -> p )", "wp vx vy ax", verdict(api.ErrApart, 3)},
		{"$d x y $. $d p y $.", "|- ( y = x -> p )", "wp vy vx ax", verdict(api.OK, 0)},
		{"$d x y $. $d p y $.", "|- ( x = y -> p )", "wp vx vy ax", verdict(api.ErrApart, 3)},
		{"$d x y $.", "|- ( x = y -> ( x -> x ) )", "vx ex vx ex wi vx vy ax", verdict(api.ErrApart, 7)},
		{"$d x y $.", "|- ( x = y -> ( y -> y ) )", "vy ex vy ex wi vx vy ax", verdict(api.OK, 0)},
		{"$d x y $. $d x p $.", "|- p", "wq vx vy ax wp", verdict(api.ErrApart, 3)},
		{"$d x y $. $d x q $.", "|- p", "wq vx vy ax wp", verdict(api.ErrStack, 5)}, // all three are dummies
		{"", "|- p", "wq vx vy ax wp", verdict(api.ErrApart, 3)},
	} {
		db := database(t, logic+"${ "+x.pairs+" t $p "+x.formula+" $= "+x.proof+" $. $}")
		if v, e := Theorem(db, number); e != api.OK || v != x.want {
			t.Errorf("%s %q by %q: %v, %d, want %v", x.pairs, x.formula, x.proof, v, e, x.want)
		}
	}
}

// P7.1: verdicts of compressed proofs; the theorem has the mandatory hypotheses wp, wq and h, which are A, B and C.
func TestCompressed(t *testing.T) {
	most := strings.Repeat("A", api.MaxSteps)
	for _, x := range []struct {
		formula, proof string
		want           api.Verdict
	}{
		{"|- ( q -> p )", "( ) C", verdict(api.OK, 0)},
		{"|- ( p -> ( q -> p ) )", "( a1 ) ABD", verdict(api.OK, 0)},
		{"|- ( p -> ( q -> p ) )", "( a1 ) A B D", verdict(api.OK, 0)},
		{"|- ( r -> ( q -> p ) )", "( wi a1 mp ) BAEZCHEDHCFG", verdict(api.OK, 0)}, // wr is C, and h is D
		{"|- ( r -> ( q -> p ) )", "( wi a1 mp ) BAEZCHEZDHBFG", verdict(api.ErrMatch, 10)},
		{"|- ( r -> ( q -> p ) )", "( wi a1 mp ) BAEZCHEZDZHCFZGZ", verdict(api.OK, 0)},
		{"|- ( r -> ( q -> p ) )", "( wi a1 mp ) BAEZCHEZDZHCFZK", verdict(api.ErrStack, 11)},
		{"|- ( r -> ( q -> p ) )", "( wi a1 mp ) BAEZCIEZDZHCFZG", verdict(api.ErrCode, 0)},
		{"wff ( p -> p )", "( wi ) AZED", verdict(api.OK, 0)},
		{"wff ( p -> p )", "( wi ) AZEZD", verdict(api.OK, 0)},
		{"wff ( p -> p )", "( wi ) AZEZFD", verdict(api.ErrStack, 4)},
		{"|- =", "( emp ) D", verdict(api.OK, 0)},
		{"|- =", "( emp ) DZE", verdict(api.ErrStack, 2)},
		{"|- p", "( wr ) D", verdict(api.ErrProves, 1)},
		{"|- p", "( wr none ) E", verdict(api.ErrLabel, 0)},
		{"|- p", "( wr none ) AE", verdict(api.ErrLabel, 1)},
		{"|- p", "( none ) A", verdict(api.ErrProves, 1)},
		{"|- p", "( t late ) D", verdict(api.ErrLabel, 0)},
		{"|- p", "( )", verdict(api.ErrStack, 0)},
		{"|- p", "( wi )", verdict(api.ErrStack, 0)},
		{"|- p", "( wi ) D", verdict(api.ErrStack, 0)},
		{"|- p", "( wi ) AD", verdict(api.ErrStack, 1)},
		{"|- p", "( ) ?", verdict(api.ErrUnknown, 0)},
		{"|- p", "( ) A?B?", verdict(api.ErrUnknown, 1)},
		{"|- p", "( ) A??", verdict(api.ErrUnknown, 1)},
		{"|- p", "(", verdict(api.ErrList, 0)},
		{"|- p", "( wi", verdict(api.ErrList, 0)},
		{"|- p", "( ? ) A", verdict(api.ErrList, 0)},
		{"|- p", "( ( ) A", verdict(api.ErrList, 0)},
		{"|- p", "( wi wi ) A", verdict(api.ErrList, 0)},
		{"|- p", "( none none ) A", verdict(api.ErrList, 0)},
		{"|- p", "( wp ) A", verdict(api.ErrList, 0)},
		{"|- p", "( wi h ) A", verdict(api.ErrList, 0)},
		{"|- p", "( wq ) a", verdict(api.ErrList, 0)}, // ahead of ErrCode
		{"|- p", "( wi wi ) Z", verdict(api.ErrList, 0)},
		{"|- p", "( wq ) A" + most, verdict(api.ErrList, 0)},
		{"|- p", "( ) ( )", verdict(api.ErrCode, 0)},
		{"|- p", "( ) A )", verdict(api.ErrCode, 0)},
		{"|- p", "( ) a", verdict(api.ErrCode, 0)},
		{"|- p", "( ) A.", verdict(api.ErrCode, 0)},
		{"|- p", "( ) A1", verdict(api.ErrCode, 0)},
		{"|- p", "( ) Z", verdict(api.ErrCode, 0)},
		{"|- p", "( ) AZZ", verdict(api.ErrCode, 0)},
		{"|- p", "( ) A Z Z", verdict(api.ErrCode, 0)},
		{"|- p", "( ) ?Z", verdict(api.ErrCode, 0)},
		{"|- p", "( ) AUZ", verdict(api.ErrCode, 0)},
		{"|- p", "( ) U?A", verdict(api.ErrCode, 0)},
		{"|- p", "( ) U", verdict(api.ErrCode, 0)},
		{"|- p", "( ) AZY", verdict(api.ErrCode, 0)},
		{"|- p", "( ) D", verdict(api.ErrCode, 0)},
		{"|- p", "( wi ) E", verdict(api.ErrCode, 0)},
		{"|- p", "( wi ) AEZ", verdict(api.ErrCode, 0)},
		{"|- p", "( wi ) EZ", verdict(api.ErrCode, 0)}, // its own tag
		{"|- p", "( wi ) AZBF", verdict(api.ErrCode, 0)},
		{"|- p", "( wi ) AZBZF", verdict(api.ErrStack, 3)},
		{"|- p", "( wi ) ?D AZBZG", verdict(api.ErrCode, 0)}, // ahead of ErrUnknown
		{"|- p", "( ) YYYYYYYYA", verdict(api.ErrCode, 0)},
		{"|- p", "( ) " + strings.Repeat("Y", 80) + "A", verdict(api.ErrCode, 0)},
		{"wff p", "( ) " + most, verdict(api.ErrStack, api.MaxSteps)},
		{"wff p", "( ) " + most + "A", verdict(api.ErrSteps, 0)},
		{"wff p", "( ) " + most + "?", verdict(api.ErrSteps, 0)},
		{"wff p", "( ) " + most + "AZ", verdict(api.ErrSteps, 0)},
		{"wff p", "( ) " + most + "D", verdict(api.ErrCode, 0)}, // ahead of ErrSteps
		{"wff p", "( ) " + most + "AU", verdict(api.ErrCode, 0)},
		{"wff p", "( ) " + strings.Repeat("AZ", api.MaxSteps), verdict(api.ErrStack, api.MaxSteps)},
		{"wff p", "( none ) " + most[1:] + "D", verdict(api.ErrLabel, api.MaxSteps-1)},
		{"wff p", strings.Repeat("wp ", api.MaxSteps), verdict(api.ErrStack, api.MaxSteps)},
		{"wff p", strings.Repeat("wp ", api.MaxSteps+1), verdict(api.ErrSteps, 0)},
		{"wff p", "no " + strings.Repeat("wp ", api.MaxSteps), verdict(api.ErrSteps, 0)}, // ahead of ErrLabel
		{"wff p", "? " + strings.Repeat("wp ", api.MaxSteps), verdict(api.ErrSteps, 0)},
	} {
		db := theorem(t, x.formula, "?")
		if v, e := Proof(db, number, strings.Fields(x.proof)); e != api.OK || v != x.want {
			t.Errorf("%q by %.80q: %v, %d, want %v", x.formula, x.proof, v, e, x.want)
		}
	}
	for _, words := range [][]string{{"(", "", ")"}, {"(", "x y", ")"}, {"(", "wi ", ")"}, {"(", ") "}} { // as no text has them
		if v, e := Proof(theorem(t, "|- p", "?"), number, words); e != api.OK || v != verdict(api.ErrList, 0) {
			t.Errorf("%q: %v, %d", words, v, e)
		}
	}
	if v, e := Proof(theorem(t, "wff p", "?"), number, []string{"(", ")", "", "A", ""}); e != api.OK || v != verdict(api.OK, 0) {
		t.Errorf("words without letters: %v, %d", v, e)
	}
}

// P7.1: numbers of many letters, up to the greatest one that there may be.
func TestNumbers(t *testing.T) {
	db := theorem(t, "wff p", "?")
	labels := names("n", maxNumber+7)
	for _, x := range []struct {
		labels  int
		letters string
		want    api.Verdict
	}{
		{17, "T", verdict(api.ErrLabel, 0)}, // 20
		{16, "T", verdict(api.ErrCode, 0)},
		{18, "UA", verdict(api.ErrLabel, 0)}, // 21
		{17, "UA", verdict(api.ErrCode, 0)},
		{117, "YT", verdict(api.ErrLabel, 0)}, // 120
		{116, "YT", verdict(api.ErrCode, 0)},
		{118, "UUA", verdict(api.ErrLabel, 0)}, // 121
		{117, "UUA", verdict(api.ErrCode, 0)},
		{maxNumber - 3, "VYXXXXXT", verdict(api.ErrLabel, 0)},
		{maxNumber - 4, "VYXXXXXT", verdict(api.ErrCode, 0)},
		{maxNumber + 7, "VYXXXXYA", verdict(api.ErrCode, 0)}, // one more
	} {
		proof := slices.Concat([]string{"("}, labels[:x.labels], []string{")", x.letters})
		if v, e := Proof(db, number, proof); e != api.OK || v != x.want {
			t.Errorf("%s with %d labels: %v, %d, want %v", x.letters, x.labels, v, e, x.want)
		}
	}
}

// names returns n different words.
func names(prefix string, n int) []string {
	var l []string
	for i := range n {
		l = append(l, prefix+strconv.Itoa(i))
	}
	return l
}

// P7.1: Letters, and its errors in their order.
func TestLetters(t *testing.T) {
	most := strings.Repeat("A", api.MaxSteps)
	for _, x := range []struct {
		proof, labels string
		letters       []Letter
	}{
		{"( )", "", nil},
		{"( a b ) AZT UAYT ?UUA", "a b", []Letter{{1, true}, {20, false}, {21, false}, {120, false}, {}, {121, false}}},
		{"( a ) B U U A Z ? ?", "a", []Letter{{2, false}, {121, true}, {}, {}}},
		{"( wp h ) ?", "wp h", []Letter{{}}},
		{"( ) VYXXXXXTZ", "", []Letter{{1000000, true}}},
		{"( ) " + most, "", slices.Repeat([]Letter{{1, false}}, api.MaxSteps)},
		{"( ) " + strings.Repeat("AZ", api.MaxSteps), "", slices.Repeat([]Letter{{1, true}}, api.MaxSteps)},
	} {
		labels, l, e := Letters(strings.Fields(x.proof))
		if e != api.OK || !slices.Equal(labels, strings.Fields(x.labels)) || !slices.Equal(l, x.letters) {
			t.Errorf("%.80q: %v, %v, %d", x.proof, labels, l, e)
		}
	}
	for _, x := range []struct {
		proof string
		want  api.Errno
	}{
		{"", api.ErrForm}, {"a", api.ErrForm}, {") ( ) A", api.ErrForm}, {"() A", api.ErrForm}, {"? ( )", api.ErrForm},
		{"(", api.ErrList}, {"( a", api.ErrList}, {"( a a ) Z", api.ErrList}, {"( ? ) A", api.ErrList}, {"( ( ) A", api.ErrList},
		{"( a b a ) A", api.ErrList}, {"( " + strings.Repeat("a", api.MaxLabel+1) + " )", api.ErrList}, {"( a a ) " + most + "A", api.ErrList},
		{"( ) Z", api.ErrCode}, {"( ) AZZ", api.ErrCode}, {"( ) ?Z", api.ErrCode}, {"( ) UZ", api.ErrCode}, {"( ) U?", api.ErrCode}, {"( ) U", api.ErrCode},
		{"( ) a", api.ErrCode}, {"( ) @", api.ErrCode}, {"( ) [", api.ErrCode}, {"( ) A )", api.ErrCode}, {"( ) VYXXXXYA", api.ErrCode},
		{"( ) " + most + "AU", api.ErrCode}, {"( ) " + most + "A", api.ErrSteps}, {"( ) " + most + "?", api.ErrSteps}, {"( a ) " + most + "AZ", api.ErrSteps},
	} {
		labels, l, e := Letters(strings.Fields(x.proof))
		if e != x.want || labels != nil || l != nil {
			t.Errorf("%.80q: %v, %v, %d, want %d", x.proof, labels, l, e, x.want)
		}
	}
	proof := append(make([]string, 0, 9), "(", "a", ")", "A")
	labels, _, _ := Letters(proof)
	_ = append(labels, "b")
	labels[0] = "c"
	if !slices.Equal(proof[:5], []string{"(", "a", ")", "A", ""}) {
		t.Errorf("the proof has become %q", proof)
	}
}

// P7.1: the errors of functions with a database, in their order.
func TestErrors(t *testing.T) {
	db := theorem(t, "|- ( q -> p )", "h")
	wrong := api.Database{Frames: []api.Frame{{}}}
	full := api.Database{Frames: make([]api.Frame, api.MaxFrames+1)}
	for _, x := range []struct {
		db   api.Database
		i    int
		want api.Errno
	}{
		{db, number, api.OK}, {db, 0, api.OK}, {db, number + 1, api.OK}, {db, -1, api.ErrNone}, {db, number + 2, api.ErrNone}, {db, -1 << 63, api.ErrNone}, {db, 1<<63 - 1, api.ErrNone},
		{api.Database{}, 0, api.ErrNone}, {wrong, 0, api.ErrForm}, {wrong, 9, api.ErrForm}, {full, -1, api.ErrFull},
	} {
		v, e := Theorem(x.db, x.i)
		if e != x.want || v != (api.Verdict{}) {
			t.Errorf("Theorem %d: %v, %d, want %d", x.i, v, e, x.want)
		}
		w, e := Proof(x.db, x.i, nil)
		if e != x.want || w != (api.Verdict{}) && e != api.OK || e == api.OK && w != verdict(api.ErrStack, 0) {
			t.Errorf("Proof of %d: %v, %d, want %d", x.i, w, e, x.want)
		}
		m, e := New(x.db, x.i, nil)
		if e != x.want || (m == nil) != (e != api.OK) {
			t.Errorf("New of %d: %v, %d, want %d", x.i, m, e, x.want)
		}
	}
	for _, x := range []api.Database{wrong, full} {
		if l, e := All(x); l != nil || e != frame.Check(x) {
			t.Errorf("All of a wrong database: %v, %d", l, e)
		}
	}
	if l, e := All(api.Database{}); len(l) != 0 || e != api.OK {
		t.Errorf("All of nothing: %v, %d", l, e)
	}
}

// P7.1: All has the verdict of each assertion, and an axiom may have a proof as well.
func TestAll(t *testing.T) {
	db := database(t, logic+"u $p |- ( p -> ( q -> p ) ) $= wp wq a1 $. v $p |- p $= wp $. w $p |- ( q -> ( q -> q ) ) $= ( u ) AAB $. x4 $p |- p $= x4 $.")
	want := append(make([]api.Verdict, number), api.Verdict{}, verdict(api.ErrProves, 1), api.Verdict{}, verdict(api.ErrLabel, 0))
	l, e := All(db)
	if e != api.OK || !slices.Equal(l, want) {
		t.Errorf("All: %v, %d", l, e)
	}
	for i := range want {
		if v, e := Theorem(db, i); e != api.OK || v != want[i] {
			t.Errorf("Theorem %d: %v, %d", i, v, e)
		}
	}
	for proof, want := range map[string]api.Verdict{"wp wq wi": verdict(api.ErrLabel, 2), "wp wq": verdict(api.ErrStack, 2), "( wi ) ABC": verdict(api.ErrLabel, 2), "( ) A": verdict(api.ErrProves, 1)} {
		if v, e := Proof(db, 0, strings.Fields(proof)); e != api.OK || v != want {
			t.Errorf("%q of wi: %v, %d", proof, v, e)
		}
	}
}
