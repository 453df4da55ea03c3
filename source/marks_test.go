package source

import (
	"math/rand"
	"slices"
	"strings"
	"testing"

	"apodixis/api"
)

// P2.1: the parts of a comment.
func TestMarks(t *testing.T) {
	for text, want := range map[string][]Mark{
		"":                               nil,
		"see ~ ax-mp or `p` [Mendelson]": {{Plain, "see "}, {Refer, "ax-mp"}, {Plain, " or "}, {Math, "p"}, {Plain, " "}, {Cite, "Mendelson"}},
		"a``b~~c[[d":                     {{Plain, "a`b~c[d"}},
		"``":                             {{Plain, "`"}},
		"`` `a b\n~[`":                   {{Plain, "` "}, {Math, "a b\n~["}},
		"`a``b`":                         {{Math, "a"}, {Math, "b"}},
		"```a```":                        {{Plain, "`"}, {Math, "a"}, {Plain, "`"}},
		"~ \t\n`a~[\xff x":               {{Refer, "`a~[\xff"}, {Plain, " x"}},
		"~~~ ~~":                         {{Plain, "~"}, {Refer, "~~"}},
		"~ a~ b":                         {{Refer, "a~"}, {Plain, " b"}},
		"[a][[b][[[c]":                   {{Cite, "a"}, {Plain, "[b]["}, {Cite, "c"}},
		"[a b] [] [ [x":                  {{Plain, "[a b] [] [ [x"}},
		"[`~$]":                          {{Cite, "`~$"}},
		"[a[b]":                          {{Plain, "[a"}, {Cite, "b"}},
		"] [":                            {{Plain, "] ["}},
		"\x00\x80":                       {{Plain, "\x00\x80"}},
	} {
		if l, at, e := Marks(text); e != api.OK || at != 0 || !slices.Equal(l, want) {
			t.Errorf("Marks of %q: %v, %d, %d", text, l, at, e)
		}
	}
}

// P2.1: the errors of Marks; that of a mark is named first.
func TestMarksErrors(t *testing.T) {
	long := strings.Repeat("x", api.MaxSource)
	for text, want := range map[string]struct {
		at int
		e  api.Errno
	}{
		long: {0, api.OK}, long + "x": {0, api.ErrSize}, long + "`": {len(long), ErrMark},
		"`": {0, ErrMark}, "a `b": {2, ErrMark}, "```": {2, ErrMark}, "`a``": {3, ErrMark}, "~ `a `": {5, ErrMark},
		"~": {0, ErrMark}, "~x": {0, ErrMark}, "~xy z": {0, ErrMark}, "a ~ \n": {2, ErrMark}, "~~~": {2, ErrMark}, "[~": {1, ErrMark}, "~ a ~": {4, ErrMark},
	} {
		l, at, e := Marks(text)
		if at != want.at || e != want.e || e != api.OK && len(l) != 0 {
			t.Errorf("Marks of %.10q: %d parts, %d, %d", text, len(l), at, e)
		}
	}
}

// P2.1: texts from parts, and their errors.
func TestUnmark(t *testing.T) {
	long := strings.Repeat("x", api.MaxSource-2)
	for name, x := range map[string]struct {
		l    []Mark
		text string
		e    api.Errno
	}{
		"nothing":                      {nil, "", api.OK},
		"all kinds":                    {[]Mark{{Plain, "a`~["}, {Math, "p ~["}, {Refer, "b`["}, {Plain, "\n]"}, {Cite, "c~`"}}, "a``~~[[`p ~[`~ b`[\n][c~`]", api.OK},
		"Refer at the end":             {[]Mark{{Refer, "a"}}, "~ a", api.OK},
		"the most bytes":               {[]Mark{{Cite, long}}, "[" + long + "]", api.OK},
		"one byte too many":            {[]Mark{{Cite, long}, {Plain, "a"}}, "", api.ErrLarge},
		"too many bytes by doubling":   {[]Mark{{Plain, "`~[" + long[3:]}}, "", api.ErrLarge},
		"too many, and a wrong part":   {[]Mark{{Cite, long}, {Plain, "a"}, {Plain, "a"}}, "", api.ErrForm},
		"no kind":                      {[]Mark{{0, "a"}}, "", api.ErrForm},
		"a kind too high":              {[]Mark{{5, "a"}}, "", api.ErrForm},
		"a kind below 0":               {[]Mark{{-1, "a"}}, "", api.ErrForm},
		"an empty Plain":               {[]Mark{{Plain, ""}}, "", api.ErrForm},
		"an empty Math":                {[]Mark{{Math, ""}}, "", api.ErrForm},
		"an empty Refer":               {[]Mark{{Refer, ""}}, "", api.ErrForm},
		"an empty Cite":                {[]Mark{{Cite, ""}}, "", api.ErrForm},
		"Plain behind Plain":           {[]Mark{{Plain, "a"}, {Plain, "b"}}, "", api.ErrForm},
		"Math with an accent":          {[]Mark{{Math, "a`"}}, "", api.ErrForm},
		"Refer with white space":       {[]Mark{{Refer, "a\fb"}}, "", api.ErrForm},
		"Refer behind Refer":           {[]Mark{{Refer, "a"}, {Refer, "b"}}, "", api.ErrForm},
		"Plain without a space behind": {[]Mark{{Refer, "a"}, {Plain, "b"}}, "", api.ErrForm},
		"an empty Plain behind Refer":  {[]Mark{{Refer, "a"}, {Plain, ""}}, "", api.ErrForm},
		"Cite with an opening bracket": {[]Mark{{Cite, "a[b"}}, "", api.ErrForm},
		"Cite with a closing bracket":  {[]Mark{{Cite, "a]"}}, "", api.ErrForm},
		"Cite with white space":        {[]Mark{{Cite, "a b"}}, "", api.ErrForm},
	} {
		if s, e := Unmark(x.l); e != x.e || s != x.text {
			t.Errorf("%s: %.30q, %d, want %d", name, s, e, x.e)
		}
	}
}

// P2.4: Marks of Unmark are the parts, and the Texts of Marks stand in the text in order.
func TestMarksBack(t *testing.T) {
	r := rand.New(rand.NewSource(24))
	texts := []string{"a", "`", "~", "[", "]", " b", "\n", "x`y", "[c]", "~ d", " ", "$)"}
	right := 0
	for range 5000 {
		var l []Mark
		for range r.Intn(6) {
			l = append(l, Mark{1 + r.Intn(4), texts[r.Intn(len(texts))]})
		}
		s, e := Unmark(l)
		if e != api.OK {
			continue
		}
		right++
		if m, _, f := Marks(s); f != api.OK || !slices.Equal(m, l) {
			t.Fatalf("Marks of Unmark of %v: %q, %v, %d", l, s, m, f)
		}
	}
	if right < 500 {
		t.Errorf("only %d lists of parts are right", right)
	}
	for range 3000 {
		text := ""
		for range r.Intn(10) {
			text += texts[r.Intn(len(texts))]
		}
		l, _, e := Marks(text)
		if e != api.OK {
			continue
		}
		s, e := Unmark(l)
		again, _, f := Marks(s)
		if e != api.OK || f != api.OK || !slices.Equal(again, l) {
			t.Fatalf("Unmark of Marks of %q: %v, %d, %d", text, s, e, f)
		}
		rest := text
		for _, m := range l {
			for _, b := range []byte(m.Text) {
				i := strings.IndexByte(rest, b)
				if i < 0 {
					t.Fatalf("the part %q of %q", m.Text, text)
				}
				rest = rest[i+1:]
			}
		}
	}
}
