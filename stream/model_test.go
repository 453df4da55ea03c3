package stream

import (
	"math/rand"
	"slices"
	"strconv"
	"strings"
	"sync"
	"testing"

	"apodixis/api"
	"apodixis/compress"
	frames "apodixis/frame"
	"apodixis/graph"
	"apodixis/layout"
	"apodixis/scope"
	"apodixis/source"
	"apodixis/token"
	"apodixis/verify"
)

// outcome is what is known of a text so far.
type outcome struct {
	refused            bool
	tokens, assertions int
	ended              []Named
}

// model finds by the other layers what the document says of a text, which is closed or may go on.
func model(text string, closed bool) outcome {
	refused := outcome{refused: true}
	_, at, e := token.Scan(text)
	if e == api.ErrSize || e == token.ErrByte {
		return refused
	}
	if !closed {
		text = text[:strings.LastIndexAny(text, " \t\r\n\f")+1]
	}
	tokens, at, e := token.Scan(text)
	if e != api.OK {
		return refused
	}
	var words []string
	inside := false
	for _, x := range token.Texts(tokens) {
		opens, closes := strings.Contains(x, "$("), strings.Contains(x, "$)")
		switch {
		case (opens || closes) && len(x) > 2, opens && inside, closes && !inside:
			return refused
		case opens || closes:
			inside = opens
		case !inside:
			words = append(words, x)
		}
	}
	whole := len(words)
	for whole > 0 && !slices.Contains([]string{"$.", "${", "$}"}, words[whole-1]) {
		whole--
	}
	list, at, e := layout.Parse(words[:whole])
	if e != api.OK {
		return refused
	}
	active, e := scope.At(list, len(list))
	if e != api.OK {
		return refused
	}
	depth := active.Depth
	list = append(list, slices.Repeat([]api.Statement{{Kind: api.Close}}, depth)...)
	db, at, e := frames.Database(list)
	if e != api.OK {
		return refused
	}
	if closed && (inside || whole < len(words) || depth > 0) {
		return refused
	}
	verdicts, e := verify.All(db)
	if e != api.OK || at != 0 {
		panic("the database of a text is not right")
	}
	o := outcome{tokens: len(tokens), assertions: len(db.Frames)}
	for i, f := range db.Frames {
		if f.Theorem {
			o.ended = append(o.ended, Named{f.Label, verdicts[i]})
		}
	}
	return o
}

// strict finds whether the functions of the other layers refuse a closed text.
func strict(text string) bool {
	tokens, _, _, e := source.Strip(text)
	if e != api.OK {
		return true
	}
	list, _, e := layout.Parse(token.Texts(tokens))
	if e != api.OK {
		return true
	}
	if _, e = scope.Check(list); e != api.OK {
		return true
	}
	_, _, e = frames.Database(list)
	return e != api.OK
}

// feed gives a text to a reader in pieces that end at given offsets, and compares all results with the model.
func feed(t *testing.T, text string, cuts []int) {
	t.Helper()
	r := New()
	known := 0 // the theorems that were returned
	check := func(l []Named, e api.Errno, at int, closed bool) bool {
		t.Helper()
		want := model(text[:at], closed)
		tokens, assertions := r.Counts()
		switch {
		case want.refused != (e == ErrText), !want.refused && e != api.OK, tokens != want.tokens, assertions != want.assertions:
			t.Fatalf("%q, closed %t: %v, %d, Counts %d, %d, want %v", text[:at], closed, l, e, tokens, assertions, want)
		case want.refused && l != nil, !want.refused && !slices.Equal(l, want.ended[known:]):
			t.Fatalf("%q, closed %t: %v, want %v behind the first %d", text[:at], closed, l, want.ended, known)
		}
		known += len(l)
		return e == api.OK
	}
	begin := 0
	for _, at := range append(cuts, len(text)) {
		l, e := r.Feed(text[begin:at])
		begin = at
		if !check(l, e, at, false) {
			if l, e := r.Close(); l != nil || e != ErrText || !model(text, true).refused {
				t.Fatalf("%q: Close of what was refused: %v, %d", text[:at], l, e)
			}
			return
		}
	}
	l, e := r.Close()
	check(l, e, len(text), true)
}

// agree compares Verify of a text with the other layers.
func agree(t *testing.T, text string) outcome {
	t.Helper()
	want := model(text, true)
	l, e := Verify(text)
	if want.refused != strict(text) || want.refused != (e == ErrText) || !want.refused && e != api.OK || !slices.Equal(l, want.ended) {
		t.Fatalf("%q: %v, %d, want %v, %t", text, l, e, want, strict(text))
	}
	return want
}

// rules has assertions with few hypotheses beside logic, so that random proofs use them.
const rules = logic + `${ n $e |- p $. gen $a |- ( q -> p ) $. $}
${ $d x p $. k $e |- p $. all $a |- ( x = x -> p ) $. $}
${ o $e wff p $. true $a |- p $. $}
${ $d x y $. neq $a |- x = y $. $}
`

// maker makes texts whose theorems are often right ones.
type maker struct {
	*rand.Rand
	text   string
	number int
}

func (m *maker) pick(l ...string) string { return l[m.Intn(len(l))] }

func databaseOf(text string) (api.Database, bool) {
	list, _, e := layout.Parse(strings.Fields(text))
	if e != api.OK {
		return api.Database{}, false
	}
	db, _, e := frames.Database(list)
	return db, e == api.OK
}

// term returns a proof of a wff.
func (m *maker) term(depth int) []string {
	switch n := m.Intn(5); {
	case depth == 0 || n < 2:
		return []string{m.pick("wp", "wq", "wr", "wp", "wq", "wr", "empty")}
	case n == 2:
		return []string{m.pick("vx", "vy"), m.pick("vx", "vy"), "weq"}
	}
	return slices.Concat(m.term(depth-1), m.term(depth-1), []string{"wi"})
}

// derive returns proofs of a wff, and of the provable formula with it, which may break disjointness. The formulas of some labels are known.
func (m *maker) derive(depth int, known map[string]string) (wff, proof []string) {
	x, y := m.pick("vx", "vy"), m.pick("vx", "vy")
	a, b := m.term(2), m.term(1)
	if depth > 0 && m.Intn(3) > 0 {
		wff, proof = m.derive(depth-1, known)
		switch m.Intn(3) {
		case 0:
			return slices.Concat(b, wff, []string{"wi"}), slices.Concat(wff, b, proof, []string{"gen"})
		case 1:
			longer := slices.Concat(b, wff, []string{"wi"})
			return longer, slices.Concat(wff, longer, proof, wff, b, []string{"a1", "mp"})
		}
		return slices.Concat([]string{x, x, "weq"}, wff, []string{"wi"}), slices.Concat(wff, []string{x}, proof, []string{"all"})
	}
	for label, wff := range known {
		return []string{wff}, []string{label}
	}
	switch m.Intn(4) {
	case 0:
		return slices.Concat(a, b, a, []string{"wi", "wi"}), slices.Concat(a, b, []string{"a1"})
	case 1:
		return a, slices.Concat(a, a, []string{"true"})
	case 2:
		return slices.Concat([]string{x, y, "weq"}, b, []string{"wi"}), slices.Concat(b, []string{x, y, "ax"})
	}
	return []string{x, y, "weq"}, []string{x, y, "neq"}
}

// theorem adds a theorem in a scope, with hypotheses and disjointness.
func (m *maker) theorem() {
	m.number++
	n := strconv.Itoa(m.number)
	apart, hyps := "${ ", ""
	for range m.Intn(4) {
		apart += "$d " + m.pick("x", "y", "p") + " " + m.pick("q", "r") + " $. "
		apart += m.pick("", "$d x y $. ", "$d p x $. ", "$d y x p $. ", "$d x y p q r $. ")
	}
	known := map[string]string{}
	if m.Intn(2) == 0 {
		wff := m.pick("p", "q", "r")
		hyps = "h" + n + " $e |- " + wff + " $. "
		known["h"+n] = "w" + wff
	}
	hyps += m.pick("", "", "i"+n+" $e |- ( x = y -> p ) $. ", "i"+n+" $e wff r $. ", "i"+n+" $e set x $. ")
	write := func(text, proof []string) string {
		return apart + hyps + "t" + n + " $p " + strings.Join(text, " ") + " $= " + strings.Join(proof, " ") + " $. $} "
	}
	db, ok := databaseOf(m.text + write([]string{"|-", "p"}, []string{"?"}))
	if !ok {
		panic("a theorem without a proof is not right: " + write(nil, nil))
	}
	last := len(db.Frames) - 1
	_, proof := m.derive(m.Intn(4), known)
	x, _ := verify.New(db, last, proof)
	for x.Step() {
	}
	text := []string{"|-", "p"}
	if x.At() == len(proof) {
		text = x.Stack()[0]
	}
	db, _ = databaseOf(m.text + write(text, proof))
	if p, e := graph.Of(db, last); e == api.OK && m.Intn(2) == 0 {
		shared, _ := graph.Share(p)
		proof, _ = compress.Proof(db, last, shared)
	}
	switch m.Intn(8) {
	case 0, 1, 2:
		proof = m.change(proof)
	case 3:
		apart = "${ "
	case 4:
		text = strings.Fields(m.pick("|- p", "wff ( p -> p )", "|- ( p -> ( q -> p ) )", "set x"))
	}
	m.text += write(text, proof)
}

// change returns another proof, which is likely to be wrong.
func (m *maker) change(proof []string) []string {
	at := m.Intn(len(proof))
	last := proof[len(proof)-1]
	switch m.Intn(7) {
	case 0:
		proof[at] = m.pick("?", "no", "mp", "wi", "wp", "vx", "a1", "ax", "h1", "h2", "t1", "t2", "(", ")", "A")
	case 3:
		proof[at] = m.pick("wp", "wq", "wr", "vx", "vy", "empty")
	case 1:
		proof = slices.Delete(proof, at, at+1)
	case 2:
		proof = slices.Insert(proof, at, m.pick("wp", "wq", "vx", "empty", "?", "wi", "A"))
	case 4:
		other := m.Intn(len(proof))
		proof[at], proof[other] = proof[other], proof[at]
	default: // of the letters of a compressed proof
		at = m.Intn(len(last))
		proof[len(proof)-1] = last[:at] + m.pick("A", "B", "C", "D", "E", "F", "G", "U", "V", "YT", "Z", "?", "a") + last[at+m.Intn(2):]
	}
	return proof
}

// spoil changes some words, inserts others, and takes some away.
func (m *maker) spoil(words []string) []string {
	others := strings.Fields("$c $v $f $e $d $a $p $. $= ${ $} $( $) $[ $] p q x wff set |- ( ) ? wp vx a1 mp ax t1 h1 new A B AZ BZC UA $x a$( -> =")
	for range m.Intn(3) {
		at := m.Intn(len(words))
		switch m.Intn(5) {
		case 0:
			words = slices.Delete(words, at, at+1)
		case 1:
			words = slices.Insert(words, at, m.pick(others...))
		case 2:
			words[at] = m.pick(others...)
		case 3:
			words[at] = words[m.Intn(len(words))]
		case 4:
			other := m.Intn(len(words))
			words[at], words[other] = words[other], words[at]
		}
	}
	return words
}

// spaced writes words with gaps and comments between them.
func (m *maker) spaced(words []string) string {
	gaps := []string{" ", "\n", "\t", "\r\n", "\f", "  ", " $( a comment $) ", "\n$( $c $. $} $)\n"}
	if m.Intn(20) == 0 {
		gaps = append(gaps, "$( $)", "$(", " $) ", "\v", "")
	}
	var b strings.Builder
	for i, w := range words {
		gap := " "
		if m.Intn(4) == 0 {
			gap = m.pick(gaps...)
		}
		if i > 0 || m.Intn(2) == 0 {
			b.WriteString(gap)
		}
		b.WriteString(w)
	}
	b.WriteString(m.pick("", " ", "\n", "\n", " $( end $)"))
	return b.String()
}

// makeTexts returns texts; many are right.
var makeTexts = sync.OnceValue(func() []string {
	m := &maker{Rand: rand.New(rand.NewSource(1))}
	var l []string
	for range 1500 {
		l = append(l, m.make())
	}
	return l
})

func (m *maker) make() string {
	m.text, m.number = rules, 0
	for range 1 + m.Intn(4) {
		m.theorem()
		more := m.pick("", "", "c# $a |- ( p -> p ) $. ", "${ $v z# $. $} ", "$v z# $. $c k# $. ", "$v z# $. vz# $f set z# $. ", "$d x y $. ", "${ $d p q r $. b# $a |- ( p -> q ) $. $} ")
		m.text += strings.ReplaceAll(more, "#", strconv.Itoa(m.number))
	}
	words := strings.Fields(m.text)
	if m.Intn(2) == 0 {
		behind := len(strings.Fields(rules)) * m.Intn(2)
		words = append(words[:behind:behind], m.spoil(words[behind:])...)
	}
	return m.spaced(words)
}

// P10.1, P10.2: the verdicts are those of the first verifier, and the same texts are refused.
func TestAgrees(t *testing.T) {
	codes := map[api.Errno]int{}
	for _, text := range makeTexts() {
		o := agree(t, text)
		if o.refused {
			codes[ErrText]++
		}
		for _, x := range o.ended {
			codes[x.Verdict.Code]++
		}
	}
	for _, code := range []api.Errno{api.OK, ErrText, api.ErrList, api.ErrCode, api.ErrLabel, api.ErrStack, api.ErrKind, api.ErrMatch, api.ErrApart, api.ErrUnknown, api.ErrProves} {
		if codes[code] < 10 {
			t.Errorf("there are %d times %d", codes[code], code)
		}
	}
	t.Log(codes)
}

// P10.3: a text in pieces, cut anywhere: in each call what has ended by then, and the text is refused where it has to be.
func TestPieces(t *testing.T) {
	random := rand.New(rand.NewSource(1))
	for _, text := range makeTexts() {
		cuts := make([]int, random.Intn(12))
		for i := range cuts {
			cuts[i] = random.Intn(len(text) + 1)
		}
		slices.Sort(cuts)
		feed(t, text, cuts)
	}
}

// P10.3, P10.4: a text byte by byte. No beginning of a right text is refused.
func TestBytes(t *testing.T) {
	for _, text := range makeTexts()[:20] {
		var cuts []int
		for i := range len(text) {
			cuts = append(cuts, i)
		}
		feed(t, text, cuts)
	}
}

// P10.4: what stands behind a theorem changes nothing of its verdict.
func TestOnePass(t *testing.T) {
	for _, text := range makeTexts() {
		whole, e := Verify(text)
		if e != api.OK {
			continue
		}
		r := New()
		var l []Named
		for at := range len(text) {
			more, e := r.Feed(text[at : at+1])
			if e != api.OK {
				t.Fatalf("%q is refused at %d", text, at)
			}
			l = append(l, more...)
			if len(l) > len(whole) || !slices.Equal(l, whole[:len(l)]) {
				t.Fatalf("%q: %v at %d, want %v", text, l, at, whole)
			}
		}
		if more, e := r.Close(); e != api.OK || !slices.Equal(append(l, more...), whole) {
			t.Fatalf("%q: %v behind %v, want %v", text, more, l, whole)
		}
	}
}
