package certify

import (
	"math/rand"
	"slices"
	"strings"
	"testing"

	"apodixis/api"
	"apodixis/table"
)

// sample is a certificate with all that a text can have; it holds for no grammar.
func sample() Certificate {
	return Certificate{
		Kind: -7, Sort: `a"b\c`,
		Table: table.Table{Sort: "wff", States: [][]table.Item{{{Rule: -1, Dot: 0, Next: ""}, {Rule: 12, Dot: -3, Next: " ~\x7f\x1f\xff"}}, nil}, Edges: []table.Edge{{From: 0, On: "s", Sort: true, To: 1}, {From: -1, On: "", To: 9223372036854775807}}},
		Text:  []string{"", "( )", "\n"},
		A:     api.Tree{Label: "x", Kids: []api.Tree{{Label: "(", Kids: []api.Tree{{}}}, {Label: ")"}}},
	}
}

const sampleText = `certificate -7 "a\"b\\c"
table "wff"
state 2
item -1 0 ""
item 12 -3 " ~\x7f\x1f\xff"
state 0
edge 0 "s" sort 1
edge -1 "" symbol 9223372036854775807
text "" "( )" "\x0a"
left "x" ( "(" ( "" ) ")" )
right ""
`

// P16.1 and P16.4: the text of a certificate, and back.
func TestText(t *testing.T) {
	s, e := Text(sample())
	if e != api.OK || s != sampleText {
		t.Errorf("%q, %d", s, e)
	}
	c, e := Parse(sampleText)
	if e != api.OK || !equal(c, sample()) {
		t.Errorf("%v, %d", c, e)
	}
	s, e = Text(Certificate{})
	if e != api.OK || s != "certificate 0 \"\"\ntable \"\"\ntext\nleft \"\"\nright \"\"\n" {
		t.Errorf("of nothing: %q, %d", s, e)
	}
	if c, e := Parse(s); e != api.OK || !isZero(c) {
		t.Errorf("of nothing: %v, %d", c, e)
	}
	holds, _ := Certify(logic(), "wff", 2)
	s, _ = Text(holds)
	if back, e := Parse(s); e != api.OK || Check(logic(), back) != api.OK {
		t.Errorf("behind its text: %d, %d", e, Check(logic(), back))
	}
}

// P16.4: all bytes and all kinds of trees.
func TestRandomTexts(t *testing.T) {
	r := rand.New(rand.NewSource(164))
	word := func() string {
		b := make([]byte, r.Intn(6))
		for i := range b {
			b[i] = byte(r.Intn(256))
			if r.Intn(2) == 0 {
				const signs = " \"\\()x\n"
				b[i] = signs[r.Intn(len(signs))]
			}
		}
		return string(b)
	}
	var tree func(depth int) api.Tree
	tree = func(depth int) api.Tree {
		x := api.Tree{Label: word()}
		for range r.Intn(3) * min(depth, 1) {
			x.Kids = append(x.Kids, tree(depth-1))
		}
		return x
	}
	for range 3000 {
		c := Certificate{Kind: r.Intn(5) - 1, Sort: word(), A: tree(3), B: tree(3)}
		c.Table.Sort = word()
		for range r.Intn(3) {
			var l []table.Item
			for range r.Intn(3) {
				l = append(l, table.Item{Rule: r.Intn(30) - 10, Dot: r.Intn(30) - 10, Next: word()})
			}
			c.Table.States = append(c.Table.States, l)
			c.Table.Edges = append(c.Table.Edges, table.Edge{From: r.Int() - r.Int(), On: word(), Sort: r.Intn(2) == 0, To: r.Intn(9)})
			c.Text = append(c.Text, word())
		}
		s, e := Text(c)
		back, f := Parse(s)
		if e != api.OK || f != api.OK || !equal(back, c) {
			t.Fatalf("%v: %q, %d, and back %v, %d", c, s, e, back, f)
		}
	}
}

// P16.1: what is no text of a certificate, and no text twice.
func TestParse(t *testing.T) {
	for _, x := range [][2]string{
		{"", "?"}, {"certificate -7", "certificate  -7"}, {"certificate -7", "certificate -07"}, {"certificate -7", "certificate +7"}, {"certificate -7", "certificate -0"},
		{"certificate -7", "certificate"}, {"certificate -7", "Certificate -7"}, {"certificate -7", "certificate 9223372036854775808"}, {"certificate -7", "certificate 0x7"}, {"certificate -7", "certificate 1_0"}, {"certificate -7", "certificate -"},
		{"state 2", "state 1"}, {"state 2", "state 3"}, {"state 0", "state -1"}, {"state 0\n", "state 0 \n"}, {"state 0\n", "state 99999999\n"}, {"state 0\n", "state\n"},
		{`\"b`, `"b`}, {`\\c`, `\c`}, {`\x7f`, `\x7F`}, {`\x7f`, `\x61`}, {`\x7f`, "\x7f"}, {`\x7f`, `\x7`}, {`\x7f`, `\xg0`}, {`\x7f`, `\X7f`}, {`\x7f`, `\n`}, {`"\x0a"`, "\"\n\""}, {`\x7f`, `\x22`}, {`\x7f`, `\x5c`},
		{"sort 1", "sorts 1"}, {"sort 1", "SORT 1"}, {"sort 1", "1"}, {`"s" sort`, `sort "s"`}, {`edge 0 "s" sort 1`, `edge 0 "s" sort 1 `},
		{`( "" )`, "( )"}, {`( "" )`, `("" )`}, {`( "" )`, `( "")`}, {`( "" )`, `( ""  )`}, {`( "" )`, `( "" ) ( "" )`}, {`( "" )`, `( ""`}, {`( "" ) ")" )`, `( "" ) ")" ) )`},
		{"text", "texts"}, {"text \"\"", "text\"\""}, {`right ""`, "right"}, {`right ""`, `right "" ""`}, {"right \"\"\n", `right ""`}, {"right \"\"\n", "right \"\"\n\n"}, {"right \"\"\n", ""}, {"left", "right"}, {"\n", "\r\n"}, {`"wff"`, `"wff`}, {`"wff"`, "wff"},
		{"edge 0 \"s\" sort 1\n", "edge 0 \"s\" sort 1\nstate 0\n"}, {"item 12 -3", "item 12"}, {"item -1", "items -1"},
	} {
		s := strings.Replace(sampleText, x[0], x[1], 1)
		if c, e := Parse(s); e != api.ErrForm || !isZero(c) {
			t.Errorf("%q instead of %q: %v, %d", x[1], x[0], c, e)
		}
	}
	for _, s := range []string{"", "\n", "certificate", `certificate 0 "`, `certificate 0 "\`, `certificate 0 "\x`, `certificate 0 "\x0`} {
		if c, e := Parse(s); e != api.ErrForm || !isZero(c) {
			t.Errorf("%q: %v, %d", s, c, e)
		}
	}
	// Whatever is taken is written again just so.
	r := rand.New(rand.NewSource(165))
	taken := 0
	for range 20000 {
		b := []byte(sampleText)
		for range 1 + r.Intn(2) {
			i, j := r.Intn(len(b)), r.Intn(len(b))
			switch r.Intn(3) {
			case 0:
				b[i] = b[j]
			case 1:
				b = slices.Insert(b, i, b[j])
			case 2:
				b = slices.Delete(b, i, i+1)
			}
		}
		c, e := Parse(string(b))
		if e != api.OK && (e != api.ErrForm || !isZero(c)) {
			t.Fatalf("%q: %v, %d", b, c, e)
		}
		if e == api.OK {
			taken++
			if s, e := Text(c); e != api.OK || s != string(b) {
				t.Fatalf("%q: %v, and its text %q, %d", b, c, s, e)
			}
		}
	}
	if taken < 1000 {
		t.Errorf("only %d texts are taken", taken)
	}
}

// chain returns a tree of nodes with one kid each.
func chain(n int) api.Tree {
	t := api.Tree{Label: "x"}
	for range n - 1 {
		t = api.Tree{Label: "x", Kids: []api.Tree{t}}
	}
	return t
}

// P16.1: the errors and the limits of Text and Parse.
func TestTextLimits(t *testing.T) {
	wide := func(n int) api.Tree { return api.Tree{Kids: make([]api.Tree, n-1)} }
	long := []string{strings.Repeat("x", 300000)}
	shared := api.Tree{}
	for range 80 {
		shared = api.Tree{Kids: []api.Tree{shared, shared}}
	}
	for name, x := range map[string]struct {
		a, b api.Tree
		text []string
		want api.Errno
	}{
		"4000 nodes":              {wide(4000), wide(4000), nil, api.OK},
		"4001 nodes":              {wide(4000), wide(4001), nil, api.ErrSize},
		"4001 nodes, deep":        {chain(101), wide(4001), long, api.ErrSize},
		"two to the 80th":         {shared, chain(101), nil, api.ErrSize},
		"100 deep":                {chain(100), chain(100), nil, api.OK},
		"101 deep":                {chain(100), chain(101), nil, api.ErrDepth},
		"101 deep, too long":      {chain(101), api.Tree{}, long, api.ErrDepth},
		"too long":                {api.Tree{}, api.Tree{}, long, api.ErrLarge},
		"100000 deep":             {chain(100000), api.Tree{}, nil, api.ErrSize},
		"a long label":            {api.Tree{Label: long[0]}, api.Tree{}, nil, api.ErrLarge},
		"many symbols, and short": {api.Tree{}, api.Tree{}, make([]string, 100000), api.ErrLarge},
	} {
		c := Certificate{Sort: "s", Text: x.text, A: x.a, B: x.b}
		s, e := Text(c)
		if e != x.want || e != api.OK && s != "" {
			t.Errorf("%s: %d bytes, %d, want %d", name, len(s), e, x.want)
		}
		if back, e := Parse(s); x.want == api.OK && (e != api.OK || !equal(back, c)) {
			t.Errorf("%s: back %d", name, e)
		}
	}
	empty, _ := Text(Certificate{})
	rest := 200000 - len(empty)
	for _, n := range []int{rest, rest + 1} {
		s, e := Text(Certificate{Sort: strings.Repeat("x", n)})
		written := strings.Replace(empty, `0 "`, `0 "`+strings.Repeat("x", n), 1)
		back, f := Parse(written)
		if n == rest && (e != api.OK || f != api.OK || s != written || back.Sort != strings.Repeat("x", n)) || n > rest && (e != api.ErrLarge || f != api.ErrLarge || s != "" || !isZero(back)) {
			t.Errorf("%d bytes: %d, %d, %d", len(written), len(s), e, f)
		}
	}
	for name, x := range map[string]struct {
		tree string
		want api.Errno
	}{
		"100 deep":   {strings.Repeat(`"x" ( `, 99) + `"x"` + strings.Repeat(" )", 99), api.OK},
		"101 deep":   {strings.Repeat(`"x" ( `, 100) + `"x"` + strings.Repeat(" )", 100), api.ErrForm},
		"4000 nodes": {`"x" (` + strings.Repeat(` "x"`, 3999) + " )", api.OK},
		"4001 nodes": {`"x" (` + strings.Repeat(` "x"`, 4000) + " )", api.ErrForm},
		"very deep":  {strings.Repeat(`"" ( `, 30000), api.ErrForm},
	} {
		for _, name2 := range []string{"left", "right"} {
			s := strings.Replace(empty, name2+` ""`, name2+" "+x.tree, 1)
			if c, e := Parse(s); e != x.want || e != api.OK && !isZero(c) {
				t.Errorf("%s, %s: %d, want %d", name, name2, e, x.want)
			}
		}
	}
	if c, e := Parse(strings.Repeat("x", 200001)); e != api.ErrLarge || !isZero(c) {
		t.Errorf("too long: %v, %d", c, e)
	}
}
