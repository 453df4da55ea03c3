package token

import (
	"math/rand"
	"slices"
	"strings"
	"testing"

	"apodixis/api"
)

// P1.1: the keywords in the order of the document, in new memory.
func TestKeywords(t *testing.T) {
	want := strings.Fields("$c $v $f $e $d $a $p $. $= ${ $} $( $) $[ $]")
	l := Keywords()
	if !slices.Equal(l, want) {
		t.Errorf("Keywords: %q", l)
	}
	l[0] = "changed"
	if !slices.Equal(Keywords(), want) {
		t.Errorf("Keywords shares its memory")
	}
}

// P1.1: tokens and their offsets.
func TestScan(t *testing.T) {
	for text, want := range map[string][]api.Token{
		"":                   nil,
		" \t\r\n\f":          nil,
		"a":                  {{Text: "a", At: 0}},
		"wp $f wff p $.":     {{Text: "wp", At: 0}, {Text: "$f", At: 3}, {Text: "wff", At: 6}, {Text: "p", At: 10}, {Text: "$.", At: 12}},
		"\fa\tb\rc\nd\n":     {{Text: "a", At: 1}, {Text: "b", At: 3}, {Text: "c", At: 5}, {Text: "d", At: 7}},
		"!~ $($)":            {{Text: "!~", At: 0}, {Text: "$($)", At: 3}},
		"  leading trailing": {{Text: "leading", At: 2}, {Text: "trailing", At: 10}},
	} {
		if l, at, e := Scan(text); e != api.OK || at != 0 || !slices.Equal(l, want) {
			t.Errorf("Scan of %q: %v, %d, %d", text, l, at, e)
		}
	}
}

// P1.1: the errors of Scan, in their order.
func TestScanErrors(t *testing.T) {
	full := strings.Repeat("a ", api.MaxTokens)
	for name, x := range map[string]struct {
		text string
		at   int
		e    api.Errno
	}{
		"the most bytes":            {strings.Repeat(" ", api.MaxSource), 0, api.OK},
		"one byte too many":         {strings.Repeat(" ", api.MaxSource+1), 0, api.ErrSize},
		"too many bytes, one wrong": {"\x00" + strings.Repeat(" ", api.MaxSource), 0, api.ErrSize},
		"a wrong byte":              {"ab \x80 \x00", 3, ErrByte},
		"a wrong byte in a token":   {"ab\x7f", 2, ErrByte},
		"a control byte":            {"a\x0bb", 1, ErrByte},
		"the byte 0":                {"\x00", 0, ErrByte},
		"the most tokens":           {full, 0, api.OK},
		"one token too many":        {full + "b c", len(full), api.ErrFull},
		"many, and a wrong byte":    {full + "b \xff", len(full) + 2, ErrByte},
		"two bytes of one letter":   {"\u00e9", 0, ErrByte},
	} {
		l, at, e := Scan(x.text)
		if at != x.at || e != x.e || e != api.OK && len(l) != 0 {
			t.Errorf("%s: %d tokens, %d, %d", name, len(l), at, e)
		}
	}
}

// P1.1: every byte has one class.
func TestBytes(t *testing.T) {
	for b := range 256 {
		s := string([]byte{byte(b)})
		space := b == 32 || b == 9 || b == 13 || b == 10 || b == 12
		printable := b >= 33 && b <= 126
		label := strings.Contains("0123456789abcdefghijklmnopqrstuvwxyzABCDEFGHIJKLMNOPQRSTUVWXYZ-_.", s)
		l, _, e := Scan(s)
		if e == api.OK != (space || printable) || len(l) == 1 != printable {
			t.Errorf("Scan of the byte %d: %v, %d", b, l, e)
		}
		if IsSpace(s) != space || IsLabel(s) != label || IsSymbol(s) != (printable && s != "$") {
			t.Errorf("the byte %d: %t, %t, %t", b, IsSpace(s), IsLabel(s), IsSymbol(s))
		}
	}
}

// P1.1: Texts takes any tokens.
func TestTexts(t *testing.T) {
	if l := Texts(nil); len(l) != 0 {
		t.Errorf("Texts of none: %q", l)
	}
	if l := Texts([]api.Token{{Text: "a b", At: -1}, {}, {Text: "$.", At: 7}}); !slices.Equal(l, []string{"a b", "", "$."}) {
		t.Errorf("Texts: %q", l)
	}
}

// P1.1 and P1.4: kinds, with the limits of length.
func TestKind(t *testing.T) {
	long := strings.Repeat("x", api.MaxLabel)
	for s, want := range map[string]int{
		"$c": Keyword, "$]": Keyword, "$(": Keyword, "$": Other, "$$": Other, "$x": Other, "c$": Other, "$cc": Other, "$.$.": Other,
		"ax-mp": Label, "_": Label, "-": Label, ".": Label, "1": Label, "A.1_b": Label, long: Label, long + "x": Other,
		"->": Symbol, "(": Symbol, "ax-mp!": Symbol, "~": Symbol, long[1:] + "!": Symbol, long + "!": Other,
		"": Other, "a b": Other, " ": Other, "\x7f": Other, "a\n": Other, "\u00e9": Other,
	} {
		if got := Kind(s); got != want {
			t.Errorf("Kind of %q: %d, want %d", s, got, want)
		}
		if IsKeyword(s) != (want == Keyword) || IsLabel(s) != (want == Label) || IsSymbol(s) != (want == Label || want == Symbol) {
			t.Errorf("%q: %t, %t, %t", s, IsKeyword(s), IsLabel(s), IsSymbol(s))
		}
	}
	for _, k := range Keywords() {
		if Kind(k) != Keyword {
			t.Errorf("Kind of %s: %d", k, Kind(k))
		}
	}
}

// P1.4: a token that contains a dollar sign is neither a label nor a math symbol.
func TestDollar(t *testing.T) {
	r := rand.New(rand.NewSource(4))
	for range 2000 {
		s := word(r)
		n := 0
		for _, b := range []bool{IsKeyword(s), IsLabel(s), IsSymbol(s) && !IsLabel(s)} {
			if b {
				n++
			}
		}
		if n > 1 || n == 0 && Kind(s) != Other || n == 1 && Kind(s) == Other {
			t.Errorf("%q has %d kinds, and the Kind %d", s, n, Kind(s))
		}
		if strings.Contains(s, "$") && (IsLabel(s) || IsSymbol(s)) {
			t.Errorf("%q is a label or a math symbol", s)
		}
	}
}

// P1.1: white space.
func TestIsSpace(t *testing.T) {
	for s, want := range map[string]bool{"": true, " \t\r\n\f": true, "\v": false, " a ": false, "\x00": false, "\u00a0": false} {
		if IsSpace(s) != want {
			t.Errorf("IsSpace of %q", s)
		}
	}
}

// P1.1: lines and columns.
func TestPosition(t *testing.T) {
	for _, x := range []struct {
		text             string
		at, line, column int
		e                api.Errno
	}{
		{"", 0, 1, 1, api.OK}, {"", 1, 0, 0, api.ErrRange}, {"", -1, 0, 0, api.ErrRange},
		{"a\r\nb", 1, 1, 2, api.OK}, {"a\r\nb", 2, 1, 3, api.OK}, {"a\r\nb", 3, 2, 1, api.OK}, {"a\r\nb", 4, 2, 2, api.OK}, {"a\r\nb", 5, 0, 0, api.ErrRange},
		{"a\rb", 2, 2, 1, api.OK}, {"a\r", 2, 2, 1, api.OK}, {"a\r\r\n\n", 2, 2, 1, api.OK}, {"a\r\r\n\n", 3, 2, 2, api.OK}, {"a\r\r\n\n", 4, 3, 1, api.OK}, {"a\r\r\n\n", 5, 4, 1, api.OK},
		{"\x80\xff\f", 3, 1, 4, api.OK}, {strings.Repeat("\n", api.MaxSource+5), api.MaxSource + 5, api.MaxSource + 6, 1, api.OK},
	} {
		line, column, e := Position(x.text, x.at)
		if line != x.line || column != x.column || e != x.e {
			t.Errorf("Position of %d: %d, %d, %d, want %d, %d, %d", x.at, line, column, e, x.line, x.column, x.e)
		}
	}
}

// P1.5: positions rise with the offsets, and say how many line ends are ahead.
func TestPositionsRise(t *testing.T) {
	r := rand.New(rand.NewSource(5))
	for range 300 {
		text := pick(r, "\r\na ", 12)
		line, column := 1, 0
		for at := range len(text) + 1 {
			l, c, e := Position(text, at)
			if e != api.OK || l < line || l == line && c <= column || at == 0 && (l != 1 || c != 1) {
				t.Fatalf("Position of %d in %q: %d, %d, %d", at, text, l, c, e)
			}
			one := strings.ReplaceAll(text[:at], "\r\n", "\n")
			if at < len(text) && text[at] == '\n' {
				one = strings.TrimSuffix(one, "\r")
			}
			if n := strings.Count(one, "\n") + strings.Count(one, "\r"); l != n+1 {
				t.Fatalf("the line of %d in %q: %d, want %d", at, text, l, n+1)
			}
			line, column = l, c
		}
	}
}

// P1.1: gaps, and the error of Scan.
func TestGaps(t *testing.T) {
	for text, want := range map[string][]string{"": {""}, " \n": {" \n"}, "a": {"", ""}, " a\t b\f": {" ", "\t ", "\f"}} {
		if g, e := Gaps(text); e != api.OK || !slices.Equal(g, want) {
			t.Errorf("Gaps of %q: %q, %d", text, g, e)
		}
	}
	for text, want := range map[string]api.Errno{"a \x01": ErrByte, strings.Repeat(" ", api.MaxSource+1): api.ErrSize, strings.Repeat("a ", api.MaxTokens+1): api.ErrFull} {
		if g, e := Gaps(text); e != want || len(g) != 0 {
			t.Errorf("Gaps: %d, %d, want %d", len(g), e, want)
		}
	}
}

// many returns a list of equal texts, between two others.
func many(n int, s, first, last string) []string {
	l := slices.Repeat([]string{s}, n)
	l[0], l[n-1] = first, last
	return l
}

// P1.1: texts from gaps and words, and the errors in their order.
func TestWeave(t *testing.T) {
	half := strings.Repeat(" ", api.MaxSource/2)
	n := api.MaxTokens
	for name, x := range map[string]struct {
		gaps, words []string
		text        string
		e           api.Errno
	}{
		"nothing":                       {[]string{""}, nil, "", api.OK},
		"white space":                   {[]string{" \r\n"}, nil, " \r\n", api.OK},
		"a keyword and another word":    {[]string{"", "\n", " "}, []string{"a$b", "$."}, "a$b\n$. ", api.OK},
		"no gaps":                       {nil, nil, "", api.ErrSize},
		"too few gaps":                  {[]string{"x"}, []string{"a"}, "", api.ErrSize},
		"too many gaps":                 {[]string{"", "x", ""}, []string{"a"}, "", api.ErrSize},
		"a gap with a word":             {[]string{"", " x "}, []string{"a"}, "", api.ErrForm},
		"an empty inner gap":            {[]string{"", "", ""}, []string{"a", "b"}, "", api.ErrForm},
		"an empty word":                 {[]string{"", ""}, []string{""}, "", api.ErrForm},
		"a word with a space":           {[]string{"", ""}, []string{"a b"}, "", api.ErrForm},
		"a word with a wrong byte":      {[]string{"", ""}, []string{"a\x80"}, "", api.ErrForm},
		"the most bytes":                {[]string{half[1:], half}, []string{"a"}, half[1:] + "a" + half, api.OK},
		"one byte too many":             {[]string{half, half}, []string{"a"}, "", api.ErrLarge},
		"too many bytes and a gap":      {[]string{half, half, "x"}, []string{"a", "b"}, "", api.ErrForm},
		"the most words":                {many(n+1, " ", "", ""), many(n, "a", "a", "a"), strings.Repeat("a ", n-1) + "a", api.OK},
		"one word too many":             {many(n+2, " ", "", ""), many(n+1, "a", "a", "a"), "", api.ErrFull},
		"too many words and bytes":      {many(n+2, " ", half, half), many(n+1, "a", "a", "a"), "", api.ErrLarge},
		"too many words, one wrong one": {many(n+2, " ", "", ""), many(n+1, "a", "a", ""), "", api.ErrForm},
	} {
		if s, e := Weave(x.gaps, x.words); e != x.e || s != x.text {
			t.Errorf("%s: %d bytes, %d, want %d", name, len(s), e, x.e)
		}
	}
}

// pick returns a text of at most most of the bytes of s.
func pick(r *rand.Rand, s string, most int) string {
	b := make([]byte, r.Intn(most+1))
	for i := range b {
		b[i] = s[r.Intn(len(s))]
	}
	return string(b)
}

func word(r *rand.Rand) string { return pick(r, "ab1-_.$$$cp(=[>~", 3) + string("x$(."[r.Intn(4)]) }

// P1.2: no loss, in both directions.
func TestNoLoss(t *testing.T) {
	r := rand.New(rand.NewSource(2))
	for range 1000 {
		text := pick(r, "ab$(.  \t\r\n\f", 30)
		l, _, e := Scan(text)
		g, f := Gaps(text)
		if s, h := Weave(g, Texts(l)); e != api.OK || f != api.OK || h != api.OK || s != text || len(g) != len(l)+1 {
			t.Fatalf("Weave of the parts of %q: %q, %d, %d, %d", text, s, e, f, h)
		}
		gaps := []string{pick(r, " \n\t", 2)}
		var words []string
		for range r.Intn(8) {
			words = append(words, word(r))
			gaps = append(gaps, " "+pick(r, " \n\f", 2))
		}
		s, e := Weave(gaps, words)
		l, _, f = Scan(s)
		if e != api.OK || f != api.OK || !slices.Equal(Texts(l), words) {
			t.Fatalf("Scan of Weave of %q: %q, %d, %d", words, s, e, f)
		}
	}
}

// P1.3: the tokens of a whole are those of its parts.
func TestLocality(t *testing.T) {
	r := rand.New(rand.NewSource(3))
	for range 500 {
		a, b := pick(r, "ab$. \n", 12), pick(r, "ab$. \n", 12)
		between := " " + pick(r, " \t", 2)
		want, _, _ := Scan(a)
		more, _, _ := Scan(b)
		for _, x := range more {
			want = append(want, api.Token{Text: x.Text, At: x.At + len(a) + len(between)})
		}
		if l, _, e := Scan(a + between + b); e != api.OK || !slices.Equal(l, want) {
			t.Fatalf("Scan of %q, %q and %q: %v, %d", a, between, b, l, e)
		}
	}
}
