package source

import (
	"math/rand"
	"slices"
	"strconv"
	"strings"
	"testing"

	"apodixis/api"
	"apodixis/token"
)

// P2.1: words and comments of a text.
func TestStrip(t *testing.T) {
	for text, want := range map[string]struct {
		words    []api.Token
		comments []Comment
	}{
		"":                           {},
		"a $( b $) c":                {[]api.Token{{Text: "a", At: 0}, {Text: "c", At: 10}}, []Comment{{" b ", Place{0, 2}, 1}}},
		"$( $)":                      {nil, []Comment{{" ", Place{0, 0}, 0}}},
		"$(\n$) $(\tx $. $)":         {nil, []Comment{{"\n", Place{0, 0}, 0}, {"\tx $. ", Place{0, 6}, 0}}},
		"$[ f $] a $( $[ $] ${ $) b": {[]api.Token{{Text: "$[", At: 0}, {Text: "f", At: 3}, {Text: "$]", At: 5}, {Text: "a", At: 8}, {Text: "b", At: 25}}, []Comment{{" $[ $] ${ ", Place{0, 10}, 4}}},
		"$ ( $( a$b ) $)":            {[]api.Token{{Text: "$", At: 0}, {Text: "(", At: 2}}, []Comment{{" a$b ) ", Place{0, 4}, 2}}},
	} {
		l, c, at, e := Strip(text)
		if e != api.OK || at != 0 || !slices.Equal(l, want.words) || !slices.Equal(c, want.comments) {
			t.Errorf("Strip of %q: %v, %v, %d, %d", text, l, c, at, e)
		}
	}
}

// P2.1: the errors of Strip, in their order.
func TestStripErrors(t *testing.T) {
	full := strings.Repeat("a ", api.MaxTokens)
	for text, want := range map[string]struct {
		at int
		e  api.Errno
	}{
		"a $) \x00": {5, token.ErrByte},
		"$) " + strings.Repeat(" ", api.MaxSource): {0, api.ErrSize},
		"$) " + full: {1 + len(full), api.ErrFull},
		"a $( b":     {2, ErrOpen},
		"$( a $) $(": {8, ErrOpen},
		"a $) b":     {2, ErrClose},
		"$( $) $)":   {6, ErrClose},
		"$( a $( $)": {5, ErrInside},
		"a$( $)":     {0, ErrInside},
		"b $(a":      {2, ErrInside},
		"$)$(":       {0, ErrInside},
		"$( x$) $)":  {3, ErrInside},
		"$( $(x":     {3, ErrInside},
		"$) a$(":     {0, ErrClose},
		"a$) $)":     {0, ErrInside},
		"$( $( $":    {3, ErrInside},
	} {
		l, c, at, e := Strip(text)
		if at != want.at || e != want.e || len(l) != 0 || len(c) != 0 {
			t.Errorf("Strip of %.20q: %v, %v, %d, %d", text, l, c, at, e)
		}
	}
}

// unit returns what reading a file gives, which has to have no error.
func unit(t *testing.T, files map[string]string, main string) Unit {
	t.Helper()
	u, f, e := Read(files, main)
	if e != api.OK || f != (Fault{}) {
		t.Fatalf("Read of %s: %v, %d", main, f, e)
	}
	return u
}

// P2.1: files are taken where they are included, once.
func TestRead(t *testing.T) {
	files := map[string]string{
		"m": "$( 0 $) $[ $( 1 $) x $( 2 $) $] $( 3 $) $c b $. $[ y $] $[ m $] $[ e $]", "x": "$c a $. $( 4 $) $[ y $]", "y": "${ $c $} $[ x $]", "e": " $( 5 $) ",
		"broken": "$(",
	}
	u := unit(t, files, "m")
	if !slices.Equal(u.Files, []string{"m", "x", "y", "e"}) {
		t.Errorf("the files: %q", u.Files)
	}
	if s := strings.Join(Texts(u), " "); s != "$c a $. ${ $c $} $c b $." {
		t.Errorf("the words: %q", s)
	}
	want := []Comment{{" 0 ", Place{0, 0}, 0}, {" 1 ", Place{0, 11}, 0}, {" 2 ", Place{0, 21}, 0}, {" 4 ", Place{1, 8}, 3}, {" 3 ", Place{0, 32}, 6}, {" 5 ", Place{3, 1}, 9}}
	if !slices.Equal(u.Comments, want) {
		t.Errorf("the comments: %v", u.Comments)
	}
	if f, e := Locate(u, 3); e != api.OK || f != (Fault{"y", 0}) {
		t.Errorf("Locate: %v, %d", f, e)
	}
	if u := unit(t, map[string]string{"": "a"}, ""); len(u.Words) != 1 || u.Files[0] != "" {
		t.Errorf("a file with an empty name: %v", u)
	}
	if u := unit(t, map[string]string{"m": "$} $c $. $[ m $] ${"}, "m"); len(u.Words) != 4 {
		t.Errorf("more closed than opened: %v", u)
	}
}

// P2.1: the errors of words, in their order.
func TestReadErrors(t *testing.T) {
	for name, x := range map[string]struct {
		main, part string
		fault      Fault
		e          api.Errno
	}{
		"an open comment":                 {"$c $. $(", "", Fault{"m", 6}, ErrOpen},
		"a wrong byte in a part":          {"$[ p $]", "a \x80", Fault{"p", 2}, token.ErrByte},
		"a comment in a part":             {"$[ p $]", "$) ", Fault{"p", 0}, ErrClose},
		"an error behind a part's one":    {"$[ p $] $]", "$(", Fault{"p", 0}, ErrOpen},
		"an error ahead of Strip's":       {"$] $(", "", Fault{"m", 3}, ErrOpen},
		"a closing word":                  {"$c $. $]", "", Fault{"m", 6}, ErrClose},
		"a closing word inside":           {"$c $] $.", "", Fault{"m", 3}, ErrClose},
		"not between statements":          {"$c $[ p $] $.", "", Fault{"m", 3}, ErrInclude},
		"not in the outermost scope":      {"${ $[ p $] $}", "", Fault{"m", 3}, ErrInclude},
		"in a scope":                      {"${ $c $. $[ p $] $}", "", Fault{"m", 9}, ErrInclude},
		"not between, and open":           {"$c $[", "", Fault{"m", 3}, ErrInclude},
		"open without a name":             {"$[", "", Fault{"m", 0}, ErrOpen},
		"open with a name":                {" $[ p $( $] $)", "", Fault{"m", 1}, ErrOpen},
		"open, the name is none":          {"$[ $]", "", Fault{"m", 0}, ErrOpen},
		"no name":                         {"$[ $] p", "", Fault{"m", 0}, ErrInclude},
		"a name with a dollar sign":       {"$[ p$ $]", "", Fault{"m", 0}, ErrInclude},
		"two names":                       {"$[ p q $]", "", Fault{"m", 0}, ErrInclude},
		"no file":                         {"$c $. $[  q $]", "", Fault{"m", 10}, ErrFile},
		"no file in a part":               {"$[ p $]", " $[ q $]", Fault{"p", 4}, ErrFile},
		"a part that ends in a scope":     {"$[ p $] $}", "${ $. $( x $) ", Fault{"p", 14}, ErrInclude},
		"a part that ends in a statement": {"$[ p $] $.", "$c", Fault{"p", 2}, ErrInclude},
	} {
		u, f, e := Read(map[string]string{"m": x.main, "p": x.part}, "m")
		if f != x.fault || e != x.e || len(u.Files)+len(u.Words)+len(u.Comments) != 0 {
			t.Errorf("%s: %v, %v, %d", name, u, f, e)
		}
	}
	for _, files := range []map[string]string{nil, {}, {"x": "$("}} {
		if u, f, e := Read(files, "m"); f != (Fault{"m", 0}) || e != ErrFile || len(u.Files) != 0 {
			t.Errorf("Read of a missing file: %v, %v, %d", u, f, e)
		}
	}
}

// chain returns files each of which includes the next one.
func chain(n int) map[string]string {
	files := map[string]string{}
	for i := range n {
		files["f"+strconv.Itoa(i)] = "$[ f" + strconv.Itoa(i+1) + " $] $c $."
	}
	files["f"+strconv.Itoa(n-1)] = ""
	return files
}

// P2.1: the limits of files and words.
func TestReadLimits(t *testing.T) {
	if u := unit(t, chain(MaxFiles), "f0"); len(u.Files) != MaxFiles || len(u.Words) != 2*(MaxFiles-1) {
		t.Errorf("the most files: %d, %d", len(u.Files), len(u.Words))
	}
	last := "f" + strconv.Itoa(MaxFiles-1)
	if _, f, e := Read(chain(MaxFiles+1), "f0"); f != (Fault{last, 0}) || e != api.ErrFull {
		t.Errorf("one file too many: %v, %d", f, e)
	}
	files := chain(MaxFiles)
	files[last] = "$[ none $]"
	if _, f, e := Read(files, "f0"); f != (Fault{last, 3}) || e != ErrFile {
		t.Errorf("a missing file too many: %v, %d", f, e)
	}
	files[last] = "$[ f0 $]"
	if u := unit(t, files, "f0"); len(u.Files) != MaxFiles {
		t.Errorf("a file that is taken already: %d", len(u.Files))
	}
	half := strings.Repeat("$. ", api.MaxTokens/2)
	files = map[string]string{"m": half + "$[ p $] $( x $)", "p": half}
	if u := unit(t, files, "m"); len(u.Words) != api.MaxTokens || len(u.Comments) != 1 {
		t.Errorf("the most words: %d", len(u.Words))
	}
	files["p"] += "$."
	if _, f, e := Read(files, "m"); f != (Fault{"p", len(half)}) || e != api.ErrFull {
		t.Errorf("one word too many: %v, %d", f, e)
	}
	files["p"] = half
	files["m"] += " $[ p $] $( y $) $[ q $]"
	files["q"] = "$( z $)"
	if u := unit(t, files, "m"); len(u.Comments) != 3 {
		t.Errorf("include commands behind the most words: %v", u.Comments)
	}
	files["q"] = "$]"
	if _, f, e := Read(files, "m"); f != (Fault{"q", 0}) || e != ErrClose {
		t.Errorf("a closing word behind the most words: %v, %d", f, e)
	}
}

// randomFiles returns files with statements, comments, and include commands of one another.
func randomFiles(r *rand.Rand) map[string]string {
	pieces := []string{"$c a $.", "${ $v x $. $}", "$( one $)", "$( $[ two $] $)", "w $a x y $.", "$[ f0 $]", "$[ f1 $]", "$[ $( in $) f2 $]", "$[ f3 $( in $) $]"}
	files := map[string]string{}
	for i := range 4 {
		text := ""
		for range r.Intn(6) {
			text += pieces[r.Intn(len(pieces))] + " \n"[r.Intn(2):][:1]
		}
		files["f"+strconv.Itoa(i)] = text
	}
	return files
}

// P2.2: no file occurs twice, words stand where they are said to, and further include commands change nothing.
func TestOnce(t *testing.T) {
	r := rand.New(rand.NewSource(22))
	for range 300 {
		files := randomFiles(r)
		u := unit(t, files, "f0")
		seen := map[string]bool{}
		for _, f := range u.Files {
			if seen[f] {
				t.Fatalf("the file %s occurs twice: %q", f, u.Files)
			}
			seen[f] = true
		}
		for i, w := range u.Words {
			f, e := Locate(u, i)
			if e != api.OK || !strings.HasPrefix(files[f.File][f.At:]+" ", w.Text+" ") && !strings.HasPrefix(files[f.File][f.At:], w.Text+"\n") {
				t.Fatalf("the word %d: %v, %v, %d", i, w, f, e)
			}
		}
		for _, c := range u.Comments {
			if !strings.HasPrefix(files[u.Files[c.File]][c.At:], "$("+c.Text+"$)") {
				t.Fatalf("the comment %v", c)
			}
		}
		last := u.Files[len(u.Files)-1]
		files[last] += " $[ f0 $] $[ " + last + " $]"
		if v := unit(t, files, "f0"); !slices.Equal(u.Files, v.Files) || !slices.Equal(u.Words, v.Words) || !slices.Equal(u.Comments, v.Comments) {
			t.Fatalf("a further include command: %v, %v", u, v)
		}
	}
}

// P2.3: a comment between two words changes no word but its offset.
func TestComments(t *testing.T) {
	r := rand.New(rand.NewSource(23))
	for range 300 {
		files := randomFiles(r)
		u := unit(t, files, "f0")
		l, c, _, _ := Strip(files["f0"])
		if len(l) == 0 {
			continue
		}
		at := l[r.Intn(len(l))].At
		files["f0"] = files["f0"][:at] + "$( new $) " + files["f0"][at:]
		v := unit(t, files, "f0")
		if !slices.Equal(Texts(u), Texts(v)) || len(v.Comments) != len(u.Comments)+1 {
			t.Fatalf("Read of %q: %v, %v", files["f0"], u, v)
		}
		m, d, _, _ := Strip(files["f0"])
		if !slices.Equal(token.Texts(l), token.Texts(m)) || len(d) != len(c)+1 {
			t.Fatalf("Strip of %q: %v", files["f0"], m)
		}
	}
}

// P2.5: a single file has the words and the comments of Strip.
func TestOneFile(t *testing.T) {
	r := rand.New(rand.NewSource(25))
	for range 300 {
		text := ""
		for range r.Intn(10) {
			text += []string{"$c ", "a\n", "$. ", "${ ", "$} ", "$( x\n$) ", "$( $[ $) ", "$x "}[r.Intn(8)]
		}
		l, c, _, e := Strip(text)
		u, f, g := Read(map[string]string{"m": text}, "m")
		var words []api.Token
		for _, w := range u.Words {
			words = append(words, api.Token{Text: w.Text, At: w.At})
		}
		if e != api.OK || g != api.OK || f != (Fault{}) || !slices.Equal(l, words) || !slices.Equal(c, u.Comments) {
			t.Fatalf("Read of %q: %v, %v, %d", text, u, f, g)
		}
	}
}

// P2.1: words of any unit.
func TestTextsAndLocate(t *testing.T) {
	u := Unit{Files: []string{"a"}, Words: []Word{{"x", Place{0, -7}}, {"", Place{1, 0}}, {"y", Place{-1, 3}}}}
	if l := Texts(u); !slices.Equal(l, []string{"x", "", "y"}) || len(Texts(Unit{})) != 0 {
		t.Errorf("Texts: %q", l)
	}
	if f, e := Locate(u, 0); e != api.OK || f != (Fault{"a", -7}) {
		t.Errorf("Locate: %v, %d", f, e)
	}
	for _, i := range []int{-1, 1, 2, 3} {
		if f, e := Locate(u, i); e != api.ErrRange || f != (Fault{}) {
			t.Errorf("Locate of %d: %v, %d", i, f, e)
		}
	}
	if _, e := Locate(Unit{}, 0); e != api.ErrRange {
		t.Errorf("Locate in an empty unit: %d", e)
	}
}
