package layout

import (
	"math/rand"
	"slices"
	"strings"
	"testing"

	"apodixis/api"
	"apodixis/source"
	"apodixis/token"
)

// same reports whether two statements are equal in all fields.
func same(a, b api.Statement) bool {
	return a.Kind == b.Kind && a.Label == b.Label && slices.Equal(a.Text, b.Text) && slices.Equal(a.Proof, b.Proof)
}

func sameAll(a, b []api.Statement) bool { return slices.EqualFunc(a, b, same) }

func sameDocument(a, b Document) bool {
	return a.Tail == b.Tail && slices.EqualFunc(a.Parts, b.Parts, func(p, q Part) bool {
		return same(p.Statement, q.Statement) && slices.Equal(p.Gaps, q.Gaps)
	})
}

func repeated(n int, s string) []string { return slices.Repeat([]string{s}, n) }

// words returns the words of a text, with more words behind them.
func words(s string, more ...[]string) []string {
	l := strings.Fields(s)
	for _, m := range more {
		l = append(l, m...)
	}
	return l
}

// P3.1: statements of all kinds.
func TestParse(t *testing.T) {
	l, at, e := Parse(words("$c ( wff ) $. $v p $. wp $f wff p $. m $e |- $. $d p q r $. a $a x y $. t $p |- p $= ( A?-_. ) ( ? 1 $. u $p x $= $. ${ $}"))
	want := []api.Statement{
		{Kind: api.Constants, Text: []string{"(", "wff", ")"}}, {Kind: api.Variables, Text: []string{"p"}}, {Kind: api.Floating, Label: "wp", Text: []string{"wff", "p"}},
		{Kind: api.Essential, Label: "m", Text: []string{"|-"}}, {Kind: api.Disjoint, Text: []string{"p", "q", "r"}}, {Kind: api.Axiom, Label: "a", Text: []string{"x", "y"}},
		{Kind: api.Theorem, Label: "t", Text: []string{"|-", "p"}, Proof: []string{"(", "A?-_.", ")", "(", "?", "1"}}, {Kind: api.Theorem, Label: "u", Text: []string{"x"}},
		{Kind: api.Open}, {Kind: api.Close},
	}
	if e != api.OK || at != 0 || !sameAll(l, want) {
		t.Errorf("Parse: %v, %d, %d", l, at, e)
	}
	if l, at, e := Parse(nil); len(l) != 0 || at != 0 || e != api.OK {
		t.Errorf("Parse of nothing: %v, %d, %d", l, at, e)
	}
}

// P3.1: the errors of Parse, each at its word.
func TestParseErrors(t *testing.T) {
	most := repeated(api.MaxSymbols, "x")
	long := strings.Repeat("x", api.MaxLabel+1)
	for _, x := range []struct {
		words []string
		at    int
		e     api.Errno
	}{
		{words("$f"), 0, ErrLabel}, {words("$c a $. $e"), 3, ErrLabel}, {words("$a"), 0, ErrLabel}, {words("$p"), 0, ErrLabel},
		{words("$."), 0, ErrKeyword}, {words("$="), 0, ErrKeyword}, {words("$("), 0, ErrKeyword}, {words("$)"), 0, ErrKeyword}, {words("$["), 0, ErrKeyword}, {words("${ $} $]"), 2, ErrKeyword},
		{words("("), 0, ErrLabel}, {words("$x"), 0, ErrLabel}, {[]string{""}, 0, ErrLabel}, {[]string{"a b"}, 0, ErrLabel}, {words(long), 0, ErrLabel},
		{words("a"), 1, api.ErrEnd}, {words("a $c"), 0, ErrLabel}, {words("$} a $v"), 1, ErrLabel}, {words("a $d"), 0, ErrLabel}, {words("a ${"), 0, ErrLabel}, {words("a $}"), 0, ErrLabel},
		{words("a b"), 1, ErrKeyword}, {words("a $."), 1, ErrKeyword}, {words("a $="), 1, ErrKeyword}, {words("a $["), 1, ErrKeyword}, {[]string{"a", ""}, 1, ErrKeyword}, {words("a $x"), 1, ErrKeyword},
		{words("$c"), 1, api.ErrEnd}, {words("$c x"), 2, api.ErrEnd}, {words("a $f x"), 3, api.ErrEnd}, {words("a $p x $="), 4, api.ErrEnd}, {words("a $p x $= ? )"), 6, api.ErrEnd},
		{words("$c ${"), 1, ErrKeyword}, {words("$c x $v"), 2, ErrKeyword}, {words("$c x $="), 2, ErrKeyword}, {words("a $a x $="), 3, ErrKeyword}, {words("a $p x $= $="), 4, ErrKeyword}, {words("a $p x $= ? $="), 5, ErrKeyword}, {words("a $p $("), 2, ErrKeyword}, {words("a $f x y $="), 4, ErrKeyword},
		{words("$c $x"), 1, ErrSymbol}, {words("$d x a$"), 2, ErrSymbol}, {[]string{"$c", ""}, 1, ErrSymbol}, {words("$c", []string{long}), 1, ErrSymbol}, {words("a $f x y z$"), 4, ErrSymbol},
		{words("$c $."), 1, ErrLength}, {words("$v $."), 1, ErrLength}, {words("$d $."), 1, ErrLength}, {words("a $e $."), 2, ErrLength}, {words("a $a $."), 2, ErrLength}, {words("a $p $="), 2, ErrLength}, {words("a $p $."), 2, ErrLength},
		{words("a $f $."), 2, ErrLength}, {words("a $f x $."), 3, ErrLength}, {words("a $f x y z"), 4, ErrLength}, {words("$c $= x"), 1, ErrKeyword},
		{words("$c", most, words("$.")), 0, api.OK}, {words("a $e", most, words("$.")), 0, api.OK}, {words("a $p", most, words("$= $.")), 0, api.OK},
		{words("$c", most, words("y")), api.MaxSymbols + 1, ErrLength}, {words("a $p", most, words("y $=")), api.MaxSymbols + 2, ErrLength}, {words("$c", most, words("$y")), api.MaxSymbols + 1, ErrSymbol}, {words("$c", most, words("$d")), api.MaxSymbols + 1, ErrKeyword},
		{words("a $p x $."), 3, ErrKeyword}, {words("a $p x $= ->"), 4, ErrProof}, {words("a $p x $= ? $x"), 5, ErrProof}, {[]string{"a", "$p", "x", "$=", ""}, 4, ErrProof}, {words("a $p x $= (("), 4, ErrProof}, {words("a $p x $= a("), 4, ErrProof},
		{words("a $p x $=", []string{long}, words("$.")), 0, api.OK},
		{repeated(api.MaxStatements, "${"), 0, api.OK}, {repeated(api.MaxStatements+1, "${"), api.MaxStatements, api.ErrFull}, {words("", repeated(api.MaxStatements, "$}"), words("$.")), api.MaxStatements, api.ErrFull},
		{words("a $p x $=", repeated(api.MaxTokens-5, "?"), words("$.")), 0, api.OK}, {words("$f a $p x $=", repeated(api.MaxTokens-5, "?"), words("$.")), 0, api.ErrSize},
	} {
		l, at, e := Parse(x.words)
		if at != x.at || e != x.e || e != api.OK && len(l) != 0 {
			t.Errorf("Parse of %.8q: %d, %d, want %d, %d", x.words, at, e, x.at, x.e)
		}
	}
}

// P3.1: the words of statements, and the errors in their order.
func TestWords(t *testing.T) {
	most := repeated(api.MaxSymbols, "x")
	open := slices.Repeat([]api.Statement{{Kind: api.Open}}, api.MaxStatements)
	big := api.Statement{Kind: api.Theorem, Label: "t", Text: []string{"x"}, Proof: repeated(api.MaxTokens-5, "?")}
	for name, x := range map[string]struct {
		l     []api.Statement
		count int
		e     api.Errno
	}{
		"nothing":                       {nil, 0, api.OK},
		"a theorem":                     {[]api.Statement{{Kind: api.Theorem, Label: "t", Text: []string{"x", "("}, Proof: []string{"(", "a?"}}}, 8, api.OK},
		"a theorem without a proof":     {[]api.Statement{{Kind: api.Theorem, Label: "t", Text: most}}, 4 + api.MaxSymbols, api.OK},
		"the most symbols":              {[]api.Statement{{Kind: api.Disjoint, Text: most}}, 2 + api.MaxSymbols, api.OK},
		"too many symbols":              {[]api.Statement{{Kind: api.Disjoint, Text: append(most, "x")}}, 0, api.ErrForm},
		"no symbols":                    {[]api.Statement{{Kind: api.Axiom, Label: "a"}}, 0, api.ErrForm},
		"one symbol of Floating":        {[]api.Statement{{Kind: api.Floating, Label: "a", Text: []string{"x"}}}, 0, api.ErrForm},
		"three symbols of Floating":     {[]api.Statement{{Kind: api.Floating, Label: "a", Text: []string{"x", "y", "z"}}}, 0, api.ErrForm},
		"a symbol of Open":              {[]api.Statement{{Kind: api.Open, Text: []string{"x"}}}, 0, api.ErrForm},
		"an empty Text of Close":        {[]api.Statement{{Kind: api.Close, Text: []string{}, Proof: []string{}}}, 1, api.OK},
		"a keyword among the symbols":   {[]api.Statement{{Kind: api.Constants, Text: []string{"$c"}}}, 0, api.ErrForm},
		"no label":                      {[]api.Statement{{Kind: api.Essential, Text: []string{"x"}}}, 0, api.ErrForm},
		"a wrong label":                 {[]api.Statement{{Kind: api.Essential, Label: "->", Text: []string{"x"}}}, 0, api.ErrForm},
		"a label of Variables":          {[]api.Statement{{Kind: api.Variables, Label: "v", Text: []string{"x"}}}, 0, api.ErrForm},
		"a label of Open":               {[]api.Statement{{Kind: api.Open, Label: "v"}}, 0, api.ErrForm},
		"a proof of an axiom":           {[]api.Statement{{Kind: api.Axiom, Label: "v", Text: []string{"x"}, Proof: []string{"?"}}}, 0, api.ErrForm},
		"a wrong proof word":            {[]api.Statement{{Kind: api.Theorem, Label: "v", Text: []string{"x"}, Proof: []string{"?", "!"}}}, 0, api.ErrForm},
		"an empty proof word":           {[]api.Statement{{Kind: api.Theorem, Label: "v", Text: []string{"x"}, Proof: []string{""}}}, 0, api.ErrForm},
		"no kind":                       {[]api.Statement{{}}, 0, api.ErrForm},
		"a kind too high":               {[]api.Statement{{Kind: 10}}, 0, api.ErrForm},
		"a kind below 0":                {[]api.Statement{{Kind: -1}}, 0, api.ErrForm},
		"the most statements":           {open, api.MaxStatements, api.OK},
		"one statement too many":        {append(open, api.Statement{}), 0, api.ErrFull},
		"the most words":                {[]api.Statement{big}, api.MaxTokens, api.OK},
		"one word too many":             {[]api.Statement{big, {Kind: api.Open}}, 0, api.ErrSize},
		"too many words and a bad kind": {[]api.Statement{big, {Kind: api.Open}, {}}, 0, api.ErrForm},
	} {
		if l, e := Words(x.l); len(l) != x.count || e != x.e {
			t.Errorf("%s: %.8q, %d, want %d words, %d", name, l, e, x.count, x.e)
		}
	}
}

// randomStatements returns well-formed statements of all kinds.
func randomStatements(r *rand.Rand, most int) []api.Statement {
	texts := []string{"a", "->", "x1", "(", "a-rather-long-symbol", ")", "[", "`"}
	proofs := []string{"(", ")", "ax-mp", "?", "ABZ?", "UUAUUAUUAUUAUUAUUAUUAUUAUUAUUAUUAUUAUUAUUAUUAUUAUUAUUAUUAUUAUUAUUAUUA"}
	choose := func(l []string, least, most int) []string {
		var c []string
		for range least + r.Intn(most-least+1) {
			c = append(c, l[r.Intn(len(l))])
		}
		return c
	}
	var l []api.Statement
	for range r.Intn(most + 1) {
		s := api.Statement{Kind: 1 + r.Intn(9)}
		switch s.Kind {
		case api.Open, api.Close:
		case api.Floating:
			s.Text = choose(texts, 2, 2)
		default:
			s.Text = choose(texts, 1, 8)
		}
		switch s.Kind {
		case api.Floating, api.Essential, api.Axiom, api.Theorem:
			s.Label = choose([]string{"a", "ax-mp", "1._"}, 1, 1)[0]
		}
		if s.Kind == api.Theorem {
			s.Proof = choose(proofs, 0, 8)
		}
		l = append(l, s)
	}
	return l
}

// P3.3: Parse of Words are the statements, and Words of Parse the words.
func TestParseWords(t *testing.T) {
	r := rand.New(rand.NewSource(33))
	for range 500 {
		l := randomStatements(r, 8)
		w, e := Words(l)
		again, _, f := Parse(w)
		if e != api.OK || f != api.OK || !sameAll(l, again) {
			t.Fatalf("Parse of Words of %v: %v, %d, %d", l, again, e, f)
		}
	}
	pieces := words("$c a $. a $f $v ${ $} $p $= ? ( $a $e $d wff")
	right := 0
	for range 50000 {
		var w []string
		for range 1 + r.Intn(6) {
			w = append(w, pieces[r.Intn(len(pieces))])
		}
		l, at, e := Parse(w)
		if e != api.OK {
			if at > len(w) || (e == api.ErrEnd) != (at == len(w)) {
				t.Fatalf("Parse of %q: %d, %d", w, at, e)
			}
			continue
		}
		right++
		if again, e := Words(l); e != api.OK || !slices.Equal(w, again) {
			t.Fatalf("Words of Parse of %q: %q, %d", w, again, e)
		}
	}
	if right < 100 {
		t.Errorf("only %d lists of words are right", right)
	}
}

// P3.1: statements of any document, in new memory.
func TestStatements(t *testing.T) {
	d := Document{Parts: []Part{{Statement: api.Statement{Kind: -3, Label: " ", Text: []string{"$c"}, Proof: []string{"!"}}}, {Gaps: []string{"x"}}}, Tail: "x"}
	l := Statements(d)
	if !sameAll(l, []api.Statement{{Kind: -3, Label: " ", Text: []string{"$c"}, Proof: []string{"!"}}, {}}) || len(Statements(Document{})) != 0 {
		t.Errorf("Statements: %v", l)
	}
	l[0].Text[0], l[0].Proof[0] = "changed", "changed"
	if d.Parts[0].Statement.Text[0] != "$c" || d.Parts[0].Statement.Proof[0] != "!" {
		t.Errorf("Statements share memory with the document")
	}
}

// P3.1: documents of texts.
func TestRead(t *testing.T) {
	text := "$( a $) $( b $) $c\tx $( c $)\n $. t $p x $=\f$.\r$( d $) ${ $}$"
	if _, at, e := Read(text); at != len(text)-3 || e != ErrLabel {
		t.Errorf("a keyword in a longer token: %d, %d", at, e)
	}
	d, at, e := Read(text[:len(text)-1])
	want := [][]string{{"$( a $) $( b $) ", "\t", " $( c $)\n "}, {" ", " ", " ", " ", "\f"}, {"\r$( d $) "}, {" "}}
	if e != api.OK || at != 0 || len(d.Parts) != len(want) || d.Tail != "" {
		t.Fatalf("Read: %v, %d, %d", d, at, e)
	}
	for i, p := range d.Parts {
		if !slices.Equal(p.Gaps, want[i]) {
			t.Errorf("the gaps of the part %d: %q", i, p.Gaps)
		}
	}
	for _, text := range []string{"", " \n", "$( only $)", " $( a $) $( b $)\n"} {
		if d, _, e := Read(text); e != api.OK || len(d.Parts) != 0 || d.Tail != text {
			t.Errorf("Read of %q: %v, %d", text, d, e)
		}
	}
}

// P3.1: the errors of Read, with their offsets.
func TestReadErrors(t *testing.T) {
	for text, want := range map[string]struct {
		at int
		e  api.Errno
	}{
		"$c \x80":                             {3, token.ErrByte},
		"$. $(":                               {3, source.ErrOpen},
		"$) $.":                               {0, source.ErrClose},
		"$c x$( $.":                           {3, source.ErrInside},
		" $.":                                 {1, ErrKeyword},
		"$c a $. $[":                          {8, ErrKeyword},
		"$( $) a  $c":                         {6, ErrLabel},
		"$c x  ":                              {6, api.ErrEnd},
		"$c x $( y $)":                        {12, api.ErrEnd},
		"a $p x $= -> $. $.":                  {10, ErrProof},
		strings.Repeat(" ", api.MaxSource+1):  {0, api.ErrSize},
		strings.Repeat("a ", api.MaxTokens+1): {2 * api.MaxTokens, api.ErrFull},
		strings.Repeat("${\n", api.MaxStatements+1): {3 * api.MaxStatements, api.ErrFull},
	} {
		if d, at, e := Read(text); at != want.at || e != want.e || len(d.Parts) != 0 || d.Tail != "" {
			t.Errorf("Read of %.20q: %d, %d, want %d, %d", text, at, e, want.at, want.e)
		}
	}
}

// P3.1: the errors of Write, in their order.
func TestWriteErrors(t *testing.T) {
	open := api.Statement{Kind: api.Open}
	full := strings.Repeat(" ", api.MaxSource-2)
	dollars := strings.Repeat("$( $) ", 4000)
	for name, x := range map[string]struct {
		d    Document
		size int
		e    api.Errno
	}{
		"nothing":                          {Document{}, 0, api.OK},
		"a Tail alone":                     {Document{Tail: "$( a $)"}, 7, api.OK},
		"a Tail alone, open":               {Document{Tail: "$( a"}, 0, api.ErrForm},
		"a Tail with a word":               {Document{Tail: " x"}, 0, api.ErrForm},
		"a Tail with a wrong byte":         {Document{Tail: "$( \x80 $)"}, 0, api.ErrForm},
		"an empty first gap":               {Document{Parts: []Part{{open, []string{""}}}}, 2, api.OK},
		"a comment in the first gap":       {Document{Parts: []Part{{open, []string{"$( $) "}}}}, 8, api.OK},
		"a first gap without space behind": {Document{Parts: []Part{{open, []string{" $( $)"}}}}, 0, api.ErrForm},
		"a first gap with a word":          {Document{Parts: []Part{{open, []string{"x "}}}}, 0, api.ErrForm},
		"a second gap without space ahead": {Document{Parts: []Part{{open, []string{""}}, {open, []string{"$( $) "}}}}, 0, api.ErrForm},
		"a second gap without its end":     {Document{Parts: []Part{{open, []string{""}}, {open, []string{" $( $)"}}}}, 0, api.ErrForm},
		"an empty second gap":              {Document{Parts: []Part{{open, []string{""}}, {open, []string{""}}}}, 0, api.ErrForm},
		"nested comments":                  {Document{Parts: []Part{{open, []string{" $( $( $) "}}}}, 0, api.ErrForm},
		"a comment in a longer token":      {Document{Parts: []Part{{open, []string{" $( a$) $) "}}}}, 0, api.ErrForm},
		"a word ahead of one":              {Document{Parts: []Part{{open, []string{" x $) "}}}}, 0, api.ErrForm},
		"all printable bytes":              {Document{Tail: "$( !~ $)"}, 8, api.OK},
		"a byte above them":                {Document{Tail: "$( \x7f $)"}, 0, api.ErrForm},
		"a byte below them":                {Document{Tail: "$( \x1f $)"}, 0, api.ErrForm},
		"a closing keyword":                {Document{Parts: []Part{{open, []string{" $) "}}}}, 0, api.ErrForm},
		"comments side by side":            {Document{Parts: []Part{{open, []string{" $( $)$( $) "}}}}, 0, api.ErrForm},
		"a Tail without space ahead":       {Document{Parts: []Part{{open, []string{""}}}, Tail: "$( $)"}, 0, api.ErrForm},
		"a Tail with a comment":            {Document{Parts: []Part{{open, []string{""}}}, Tail: " $( $)"}, 8, api.OK},
		"no gaps":                          {Document{Parts: []Part{{open, nil}}}, 0, api.ErrSize},
		"too many gaps":                    {Document{Parts: []Part{{open, []string{"", " "}}}}, 0, api.ErrSize},
		"too many gaps behind a wrong one": {Document{Parts: []Part{{open, []string{"x"}}, {open, nil}}}, 0, api.ErrSize},
		"a wrong statement and no gaps":    {Document{Parts: []Part{{api.Statement{}, nil}}}, 0, api.ErrForm},
		"the most bytes":                   {Document{Parts: []Part{{open, []string{full}}}}, api.MaxSource, api.OK},
		"one byte too many":                {Document{Parts: []Part{{open, []string{full}}}, Tail: " "}, 0, api.ErrLarge},
		"a gap that is too large":          {Document{Parts: []Part{{open, []string{full + "    "}}}}, 0, api.ErrLarge},
		"a large gap with a word":          {Document{Parts: []Part{{open, []string{full + "   x "}}}}, 0, api.ErrForm},
		"the most tokens":                  {Document{Tail: dollars}, 24000, api.OK},
		"one token too many":               {Document{Parts: []Part{{open, []string{dollars}}}}, 0, api.ErrFull},
		"too many tokens and bytes":        {Document{Parts: []Part{{open, []string{dollars + full}}}}, 0, api.ErrLarge},
	} {
		if s, e := Write(x.d); len(s) != x.size || e != x.e {
			t.Errorf("%s: %.20q, %d, want %d bytes, %d", name, s, e, x.size, x.e)
		}
	}
	many := slices.Repeat([]Part{{open, nil}}, api.MaxStatements+1)
	if _, e := Write(Document{Parts: many}); e != api.ErrFull {
		t.Errorf("too many parts: %d", e)
	}
}

// randomText returns a text of statements with white space and comments between their words.
func randomText(r *rand.Rand) string {
	blank := func() string {
		s := []string{" ", "\n", "\t ", "\r\n"}[r.Intn(4)]
		for range max(0, r.Intn(6)-4) {
			s += "$( " + []string{"", "note ", "$[ $= ", "a\nlonger note with words "}[r.Intn(4)] + "$)" + []string{" ", "\f"}[r.Intn(2)]
		}
		return s
	}
	var b strings.Builder
	w, _ := Words(randomStatements(r, 6))
	if r.Intn(2) == 0 {
		b.WriteString(blank())
	}
	for i, x := range w {
		if i > 0 {
			b.WriteString(blank())
		}
		b.WriteString(x)
	}
	b.WriteString([]string{"", blank(), blank() + "$( end $)"}[r.Intn(3)])
	return b.String()
}

// P3.2: Write of Read is the text, and Read of Write is the document.
func TestNoLoss(t *testing.T) {
	r := rand.New(rand.NewSource(32))
	gaps := []string{"", " ", "\n", " $( a $) ", "$( b $)\n", " $( c $)", "x ", "$) "}
	right := 0
	for range 1000 {
		text := randomText(r)
		d, _, e := Read(text)
		s, f := Write(d)
		if e != api.OK || f != api.OK || s != text {
			t.Fatalf("Write of Read of %q: %q, %d, %d", text, s, e, f)
		}
		for range r.Intn(4) {
			if len(d.Parts) == 0 || r.Intn(4) == 0 {
				d.Tail = gaps[r.Intn(len(gaps))]
				continue
			}
			p := d.Parts[r.Intn(min(2, len(d.Parts)))]
			p.Gaps[r.Intn(min(2, len(p.Gaps)))] = gaps[r.Intn(len(gaps))]
		}
		if s, e = Write(d); e != api.OK {
			continue
		}
		right++
		if again, _, e := Read(s); e != api.OK || !sameDocument(d, again) {
			t.Fatalf("Read of Write of %v: %v, %d", d, again, e)
		}
	}
	if right < 100 {
		t.Errorf("only %d documents are right", right)
	}
}

// P3.1: lines and indents.
func TestPrint(t *testing.T) {
	open, end := api.Statement{Kind: api.Open}, api.Statement{Kind: api.Close}
	c := api.Statement{Kind: api.Constants, Text: []string{"a", "b"}}
	for _, x := range []struct {
		l     []api.Statement
		width int
		text  string
	}{
		{nil, 10, ""},
		{[]api.Statement{c}, 9, "$c a b $.\n"},
		{[]api.Statement{c}, 8, "$c a b\n    $.\n"},
		{[]api.Statement{c}, 6, "$c a b\n    $.\n"},
		{[]api.Statement{c}, 5, "$c a\n    b\n    $.\n"},
		{[]api.Statement{{Kind: api.Variables, Text: []string{"aa", "bb", "cc", "dd"}}}, 9, "$v aa bb\n    cc dd\n    $.\n"},
		{[]api.Statement{c}, 0, "$c\n    a\n    b\n    $.\n"},
		{[]api.Statement{c}, -1 << 62, "$c\n    a\n    b\n    $.\n"},
		{[]api.Statement{open, c, open, end, end, c}, 79, "${\n  $c a b $.\n  ${\n  $}\n$}\n$c a b $.\n"},
		{[]api.Statement{end, c, open, c, open, c}, 1<<62 + 1, "$}\n$c a b $.\n${\n$c a b $.\n${\n  $c a b $.\n"},
		{[]api.Statement{{Kind: api.Theorem, Label: "t", Text: []string{"x"}, Proof: []string{"(", "a", ")", "A"}}}, 79, "t $p x $= ( a ) A $.\n"},
	} {
		if s, e := Print(x.l, x.width); e != api.OK || s != x.text {
			t.Errorf("Print with %d: %q, %d, want %q", x.width, s, e, x.text)
		}
	}
	for depth, indent := range map[int]int{1: 2, 9: 18, 10: 20, 11: 20, 150: 20} {
		s, e := Print(append(slices.Repeat([]api.Statement{open}, depth), c), 79)
		if lines := strings.Split(s, "\n"); e != api.OK || lines[depth] != strings.Repeat(" ", indent)+"$c a b $." {
			t.Errorf("the indent at the depth %d: %q, %d", depth, lines[depth], e)
		}
	}
}

// P3.1: the errors of Print and Of, in their order.
func TestPrintErrors(t *testing.T) {
	theorem := func(bytes int) api.Statement {
		return api.Statement{Kind: api.Theorem, Label: "t", Text: []string{"x"}, Proof: []string{strings.Repeat("A", bytes-len("t $p x $=  $.\n"))}}
	}
	for name, x := range map[string]struct {
		l    []api.Statement
		size int
		e    api.Errno
	}{
		"the most bytes":      {[]api.Statement{theorem(api.MaxSource)}, api.MaxSource, api.OK},
		"one byte too many":   {[]api.Statement{theorem(api.MaxSource + 1)}, 0, api.ErrLarge},
		"large and wrong":     {[]api.Statement{theorem(api.MaxSource + 1), {}}, 0, api.ErrForm},
		"too many statements": {make([]api.Statement, api.MaxStatements+1), 0, api.ErrFull},
		"too many words":      {[]api.Statement{{Kind: api.Theorem, Label: "t", Text: []string{"x"}, Proof: repeated(api.MaxTokens, "?")}}, 0, api.ErrSize},
	} {
		s, e := Print(x.l, 1<<40)
		if len(s) != x.size || e != x.e {
			t.Errorf("%s: %d bytes, %d, want %d", name, len(s), e, x.e)
		}
		d, f := Of(x.l, 1<<40)
		if f != x.e || f != api.OK && len(d.Parts)+len(d.Tail) != 0 {
			t.Errorf("Of, %s: %d, want %d", name, f, x.e)
		}
	}
}

// P3.4: Read of Print has the same statements, and lines are as long as width lets them be.
func TestPrintBack(t *testing.T) {
	r := rand.New(rand.NewSource(34))
	for range 500 {
		l := randomStatements(r, 8)
		width := r.Intn(60) - 5
		s, e := Print(l, width)
		d, _, f := Read(s)
		if e != api.OK || f != api.OK || !sameAll(Statements(d), l) {
			t.Fatalf("Read of Print of %v: %q, %d, %d", l, s, e, f)
		}
		if of, e := Of(l, width); e != api.OK || !sameDocument(of, d) {
			t.Fatalf("Of %v: %v, %d", l, of, e)
		}
		for _, line := range strings.Split(s, "\n") {
			if len(line) > width && len(strings.Fields(line)) > 1 {
				t.Fatalf("a line of Print with %d: %q", width, line)
			}
		}
	}
}

// P3.1: rewrapped texts, and the errors.
func TestRewrap(t *testing.T) {
	for _, x := range []struct {
		text  string
		width int
		out   string
		at    int
		e     api.Errno
	}{
		{"", 10, "", 0, api.OK},
		{" $( a  b $)\n$( c $) ", 10, "$( a b $)\n$( c $)\n", 0, api.OK},
		{" $( a  b $)\n$( c $) ", 5, "$( a\n    b\n    $)\n$( c\n    $)\n", 0, api.OK},
		{"${ $( x $) $c $( y $) a $. $( z $) $} $( w $)", 20, "${\n  $( x $)\n  $c $( y $) a $.\n$( z $)\n$}\n$( w $)\n", 0, api.OK},
		{"${ ${ $( w $)", 20, "${\n  ${\n    $( w $)\n", 0, api.OK},
		{"$} $( v $) ${ $c $( x $) $( y $) a $.", 18, "$}\n$( v $)\n${\n$c $( x $) $( y $)\n    a $.\n", 0, api.OK},
		{"$c a", 20, "", 4, api.ErrEnd},
		{"$c \x00", 20, "", 3, token.ErrByte},
		{strings.Repeat("a ", 7) + "$(", 20, "", 14, source.ErrOpen},
		{strings.Repeat("${\n", 1900), 20, "", 0, api.ErrLarge},
		{"$( " + strings.Repeat("a", api.MaxSource-7) + " $)", api.MaxSource, "$( " + strings.Repeat("a", api.MaxSource-7) + " $)\n", 0, api.OK},
		{"$( " + strings.Repeat("a", api.MaxSource-6) + " $)", api.MaxSource, "", 0, api.ErrLarge},
	} {
		if s, at, e := Rewrap(x.text, x.width); s != x.out || at != x.at || e != x.e {
			t.Errorf("Rewrap of %.40q with %d: %q, %d, %d", x.text, x.width, s, at, e)
		}
	}
}

// P3.5: rewrapping keeps all tokens, and a second time changes nothing.
func TestRewrapAgain(t *testing.T) {
	r := rand.New(rand.NewSource(35))
	for range 500 {
		text := randomText(r)
		width := r.Intn(50) - 3
		s, _, e := Rewrap(text, width)
		a, _, _ := token.Scan(text)
		b, _, _ := token.Scan(s)
		if e != api.OK || !slices.Equal(token.Texts(a), token.Texts(b)) {
			t.Fatalf("Rewrap of %q: %q, %d", text, s, e)
		}
		if again, _, e := Rewrap(s, width); e != api.OK || again != s {
			t.Fatalf("Rewrap of %q: %q, %d", s, again, e)
		}
	}
}
