package compress

import (
	"math/rand"
	"slices"
	"strconv"
	"strings"
	"testing"

	"apodixis/api"
)

// names returns n different words.
func names(prefix string, n int) []string {
	var l []string
	for i := range n {
		l = append(l, prefix+strconv.Itoa(i))
	}
	return l
}

func sameCode(a, b Code) bool {
	return slices.Equal(a.Labels, b.Labels) && slices.Equal(a.Numbers, b.Numbers)
}

// P8.1: Is looks at the first word alone.
func TestIs(t *testing.T) {
	for s, want := range map[string]bool{"": false, "( ) A": true, "(": true, "wp ( )": false, ") (": false, "(( )": false} {
		if Is(strings.Fields(s)) != want {
			t.Errorf("Is of %q", s)
		}
	}
}

// P8.1: Read, and its errors in their order.
func TestRead(t *testing.T) {
	for _, x := range []struct {
		proof []string
		want  Code
		e     api.Errno
	}{
		{strings.Fields("( )"), Code{}, api.OK},
		{strings.Fields("( wi a1 ) ABZ UA ?"), Code{[]string{"wi", "a1"}, []int{1, 2, Save, 21, Unknown}}, api.OK},
		{strings.Fields("( wi ) U U A"), Code{[]string{"wi"}, []int{121}}, api.OK},
		{[]string{"(", ")", "", "A", ""}, Code{nil, []int{1}}, api.OK},
		{strings.Fields("( ) " + strings.Repeat("A", api.MaxSource)), Code{nil, slices.Repeat([]int{1}, api.MaxSource)}, api.OK},
		{nil, Code{}, api.ErrList},
		{strings.Fields("wp"), Code{}, api.ErrList},
		{strings.Fields("wp ( ) A"), Code{}, api.ErrList},
		{strings.Fields(") ( A"), Code{}, api.ErrList},
		{strings.Fields(")"), Code{}, api.ErrList},
		{strings.Fields("("), Code{}, api.ErrList},
		{strings.Fields("( wi a1"), Code{}, api.ErrList},
		{strings.Fields("( wi wi ) A"), Code{}, api.ErrList},
		{strings.Fields("( wi a1 wi ) a"), Code{}, api.ErrList},
		{strings.Fields("( ( ) A"), Code{}, api.ErrList},
		{strings.Fields("( ? ) A"), Code{}, api.ErrList},
		{[]string{"(", "", ")"}, Code{}, api.ErrList},
		{[]string{"(", strings.Repeat("x", api.MaxLabel+1), ")"}, Code{}, api.ErrList},
		{[]string{"(", strings.Repeat("x", api.MaxLabel), ")"}, Code{[]string{strings.Repeat("x", api.MaxLabel)}, nil}, api.OK},
		{strings.Fields("( ? ) " + strings.Repeat("A", api.MaxSource+1)), Code{}, api.ErrList},
		{strings.Fields("( wi ) a"), Code{}, api.ErrCode},
		{strings.Fields("( wi ) A )"), Code{}, api.ErrCode},
		{strings.Fields("( wi ) U"), Code{}, api.ErrCode},
		{strings.Fields("( wi ) A Z Z"), Code{}, api.ErrCode},
		{strings.Fields("( wi ) ! " + strings.Repeat("A", api.MaxSource)), Code{}, api.ErrSize},
	} {
		if c, e := Read(x.proof); e != x.e || !sameCode(c, x.want) {
			t.Errorf("Read of %.60q: %v, %d, want %v, %d", x.proof, c, e, x.want, x.e)
		}
	}
}

// P8.1: Write, its widths, and its errors in their order.
func TestWrite(t *testing.T) {
	c := Code{[]string{"wi", "a1"}, []int{1, 2, Save, 21, Unknown, 121}}
	for width, want := range map[int]string{
		1: "A B Z U A ? U U A", 2: "AB ZU A? UU A", 3: "ABZ UA? UUA", 8: "ABZUA?UU A", 9: "ABZUA?UUA", 10: "ABZUA?UUA", 1<<63 - 1: "ABZUA?UUA",
		0: "A B Z U A ? U U A", -1: "A B Z U A ? U U A", -1 << 63: "A B Z U A ? U U A",
	} {
		if l, e := Write(c, width); e != api.OK || strings.Join(l, " ") != "( wi a1 ) "+want {
			t.Errorf("Write to %d: %q, %d", width, l, e)
		}
	}
	ones := slices.Repeat([]int{1}, api.MaxSource)
	for name, x := range map[string]struct {
		c    Code
		want api.Errno
		size int
	}{
		"nothing":                     {Code{}, api.OK, 2},
		"labels alone":                {Code{Labels: names("a", 3)}, api.OK, 5},
		"a label twice":               {Code{Labels: []string{"a", "b", "a"}, Numbers: []int{-2}}, api.ErrList, 0},
		"a word that is no label":     {Code{Labels: []string{"a", "?"}}, api.ErrList, 0},
		"an empty label":              {Code{Labels: []string{""}}, api.ErrList, 0},
		"a number below Unknown":      {Code{Numbers: []int{1, -2}}, api.ErrCode, 0},
		"a number too great":          {Code{Numbers: []int{MaxNumber + 1}}, api.ErrCode, 0},
		"the greatest number":         {Code{Numbers: []int{MaxNumber}}, api.OK, 3},
		"a Save first":                {Code{Numbers: []int{Save}}, api.ErrCode, 0},
		"a Save behind a Save":        {Code{Numbers: []int{1, Save, Save}}, api.ErrCode, 0},
		"a Save behind Unknown":       {Code{Numbers: []int{1, Unknown, Save}}, api.ErrCode, 0},
		"a Save behind another one":   {Code{Numbers: []int{1, Save, 1, Save}}, api.OK, 3},
		"Unknown behind a Save":       {Code{Numbers: []int{1, Save, Unknown, Unknown}}, api.OK, 3},
		"the most letters":            {Code{Numbers: ones}, api.OK, 2 + (api.MaxSource+59)/60},
		"a letter too many":           {Code{Numbers: append(slices.Clone(ones), 2)}, api.ErrSize, 0},
		"a Save too many":             {Code{Numbers: append(slices.Clone(ones), Save)}, api.ErrSize, 0},
		"numbers of more letters":     {Code{Numbers: append(slices.Clone(ones[1:]), 21)}, api.ErrSize, 0},
		"too many, and a wrong one":   {Code{Numbers: append(slices.Clone(ones), 2, -2)}, api.ErrCode, 0},
		"too many, and a wrong label": {Code{Labels: []string{""}, Numbers: append(slices.Clone(ones), 2)}, api.ErrList, 0},
	} {
		if l, e := Write(x.c, 60); e != x.want || len(l) != x.size {
			t.Errorf("%s: %d words, %d, want %d", name, len(l), e, x.want)
		}
	}
}

// P8.3: Read of Write is the code, with any width; the words have this width.
func TestWords(t *testing.T) {
	r := rand.New(rand.NewSource(83))
	for range 3000 {
		c, width := Code{names("a", r.Intn(4)), randomNumbers(r, 30)}, r.Intn(12)-1
		l, e := Write(c, width)
		back, f := Read(l)
		if e != api.OK || f != api.OK || !sameCode(back, c) {
			t.Fatalf("%v, to %d: %q, %d; back: %v, %d", c, width, l, e, back, f)
		}
		words := l[len(c.Labels)+2:]
		for i, w := range words {
			if n := max(width, 1); len(w) > n || w == "" || len(w) < n && i < len(words)-1 {
				t.Fatalf("%v, to %d: %q", c, width, words)
			}
		}
	}
}

func item(label string) Item { return Item{Label: label, Back: -1} }

func saved(i Item) Item {
	i.Saved = true
	return i
}

// P8.1: Items of any frame, and its errors in their order.
func TestItems(t *testing.T) {
	f := api.Frame{Hyps: []api.Hyp{{Label: "wp"}, {Label: "wq"}}}
	unknown := Item{Back: -1, Unknown: true}
	for _, x := range []struct {
		labels  string
		numbers []int
		want    []Item
	}{
		{"", nil, nil},
		{"wi", []int{1, 2, 3, Save, 1, 2, 3, 4}, []Item{item("wp"), item("wq"), saved(item("wi")), item("wp"), item("wq"), item("wi"), {Back: 2}}},
		{"a b", []int{3, 4, Unknown, 2, Unknown}, []Item{item("a"), item("b"), unknown, item("wq"), unknown}},
		{"", []int{1, Save, 3, Save, 4, 3}, []Item{saved(item("wp")), {Back: 0, Saved: true}, {Back: 1}, {Back: 0}}},
		{"a", []int{2, Save, 3, Save, 5, 4}, []Item{saved(item("wq")), saved(item("a")), {Back: 1}, {Back: 0}}},
	} {
		l, e := Items(f, Code{strings.Fields(x.labels), x.numbers})
		if e != api.OK || !slices.Equal(l, x.want) {
			t.Errorf("%q with %v: %v, %d", x.labels, x.numbers, l, e)
		}
	}
	ones := slices.Repeat([]int{1}, api.MaxSteps)
	tagged := slices.Repeat([]int{1, Save}, api.MaxSteps)
	for name, x := range map[string]struct {
		labels  string
		numbers []int
		want    api.Errno
	}{
		"a label twice":           {"a a", []int{-2}, api.ErrList},
		"no label":                {"?", []int{-2}, api.ErrList},
		"a mandatory one":         {"a wq", []int{-2}, api.ErrList},
		"a number below Unknown":  {"a", []int{1, -2}, api.ErrCode},
		"a number too great":      {"a", []int{MaxNumber + 1}, api.ErrCode},
		"a Save first":            {"a", []int{Save}, api.ErrCode},
		"a Save behind Unknown":   {"a", []int{Unknown, Save}, api.ErrCode},
		"a Save behind a Save":    {"a", []int{1, Save, Save}, api.ErrCode},
		"a label that is missing": {"a", []int{4}, api.ErrCode},
		"its own item":            {"a", []int{4, Save}, api.ErrCode},
		"an item not yet saved":   {"a", []int{1, Save, 5, Save}, api.ErrCode},
		"the most items":          {"a", ones, api.OK},
		"the most saved items":    {"a", tagged, api.OK},
		"an item too many":        {"a", append(slices.Clone(ones), 2), api.ErrSteps},
		"Unknown too many":        {"a", append(slices.Clone(ones), Unknown), api.ErrSteps},
		"too many, and wrong":     {"a", append(slices.Clone(ones), 2, 4), api.ErrCode},
		"too many, and mandatory": {"wp", append(slices.Clone(ones), 2), api.ErrList},
	} {
		l, e := Items(f, Code{strings.Fields(x.labels), x.numbers})
		if e != x.want || e != api.OK && l != nil || e == api.OK && len(l) != api.MaxSteps {
			t.Errorf("%s: %d items, %d, want %d", name, len(l), e, x.want)
		}
	}
	if l, e := Items(api.Frame{}, Code{Numbers: []int{1}}); l != nil || e != api.ErrCode {
		t.Errorf("a frame without hypotheses: %v, %d", l, e)
	}
	many := api.Frame{Hyps: make([]api.Hyp, 3*api.MaxHyps)}
	if l, e := Items(many, Code{Numbers: []int{3 * api.MaxHyps}}); e != api.OK || !slices.Equal(l, []Item{item("")}) {
		t.Errorf("a frame that is not right: %v, %d", l, e)
	}
}
