package natural

import (
	"slices"
	"strconv"
	"strings"
	"testing"

	"apodixis/api"
	"apodixis/token"
)

// parsed returns the formula of a text.
func parsed(t *testing.T, s string) Formula {
	t.Helper()
	f, at, e := Parse(s)
	if e != api.OK {
		t.Fatalf("%q: %d at %d", s, e, at)
	}
	return f
}

// written returns the text of a formula.
func written(t *testing.T, f Formula) string {
	t.Helper()
	s, e := Text(f)
	if e != api.OK {
		t.Fatalf("%v: %d", f, e)
	}
	return s
}

// chain returns a formula of n implications, one in the other, around p, which has 2n + 1 nodes and the depth n + 1.
func chain(n int) Formula {
	f := Formula{Kind: Atom, Name: "p"}
	for range n {
		f = Formula{Kind: Implies, Parts: []Formula{{Kind: Atom, Name: "p"}, f}}
	}
	return f
}

// wide returns an atom with n nodes.
func wide(n int) Formula {
	return Formula{Kind: Atom, Name: "p", Terms: slices.Repeat([]Term{{Name: "a"}}, n-1)}
}

// tower returns a term of a depth.
func tower(depth int) Term {
	t := Term{Name: "a"}
	for range depth - 1 {
		t = Term{Name: "f", Args: []Term{t}}
	}
	return t
}

// binders returns n binders of a kind around a formula.
func binders(kind, n int, f Formula) Formula {
	for range n {
		f = Formula{Kind: kind, Parts: []Formula{f}}
	}
	return f
}

// isZero reports whether a formula has no field.
func isZero(f Formula) bool {
	return f.Kind == 0 && f.Name == "" && len(f.Terms) == 0 && len(f.Parts) == 0
}

// P25.1, P25.2: texts and what they are parsed to; the variables that binders get.
func TestTexts(t *testing.T) {
	for s, want := range map[string]string{
		"p":                                    "p",
		" p ":                                  "p",
		"$F":                                   "$F",
		"->":                                   "->",
		"$= x y":                               "$= x y",
		"$= f $( x $) g $( y z $)":             "$= f $( x $) g $( y z $)",
		"P $( x y z $)":                        "P $( x y z $)",
		"P $( f $( g $( x $) y $) z $)":        "P $( f $( g $( x $) y $) z $)",
		"$> p $> q r":                          "$> p $> q r",
		"$> $> p q r":                          "$> $> p q r",
		"$& p\t$|\nq  r":                       "$& p $| q r",
		"$A x p":                               "$A v0 p",
		"$E x $A y Q $( x y $)":                "$E v0 $A v1 Q $( v0 v1 $)",
		"$A x $A x P $( x $)":                  "$A v0 $A v1 P $( v1 $)",
		"$A x $> P $( x $) $A x P $( x $)":     "$A v0 $> P $( v0 $) $A v1 P $( v1 $)",
		"$A x $> $A x P $( x $) P $( x $)":     "$A v0 $> $A v1 P $( v1 $) P $( v0 $)",
		"$& $A x P $( x $) $E y P $( y $)":     "$& $A v0 P $( v0 $) $E v0 P $( v0 $)",
		"$A x P $( v0 x $)":                    "$A v1 P $( v0 v1 $)",
		"$& $A x P $( x $) Q $( v0 $)":         "$& $A v1 P $( v1 $) Q $( v0 $)",
		"$& $A x $A y Q $( x y $) R $( v1 $)":  "$& $A v0 $A v2 Q $( v0 v2 $) R $( v1 $)",
		"$A x $A y $A z R $( v2 v0 x y z $)":   "$A v1 $A v3 $A v4 R $( v2 v0 v1 v3 v4 $)",
		"$A x $A y Q $( v00 v-0 v+1 x $)":      "$A v0 $A v1 Q $( v00 v-0 v+1 v0 $)",
		"$A x v0":                              "$A v0 v0",                      // an atom is no term
		"$A x P $( v0 $( x $) $)":              "$A v0 P $( v0 $( v0 $) $)",     // one with arguments does not count
		"$A x $> x P $( x $( x $) $)":          "$A v0 $> x P $( x $( v0 $) $)", // neither is a variable
		"$A v1 $A v0 $= v0 v1":                 "$A v0 $A v1 $= v1 v0",          // other names
		"$E v0 $= v0 v0":                       "$E v0 $= v0 v0",                // the same ones
		"$A a $& $= a b $E b $& $= a b $= b a": "$A v0 $& $= v0 b $E v1 $& $= v0 v1 $= v1 v0",
	} {
		f := parsed(t, s)
		if got := written(t, f); got != want {
			t.Errorf("%q: %q, want %q", s, got, want)
		}
		if g := parsed(t, want); !Same(f, g) {
			t.Errorf("%q: %v, but %q: %v", s, f, want, g)
		}
	}
	x := func(i int) Term { return Term{Index: i} }
	want := Formula{Kind: All, Parts: []Formula{{Kind: Some, Parts: []Formula{{Kind: Or, Parts: []Formula{
		{Kind: Equal, Terms: []Term{x(1), x(0)}}, {Kind: Atom, Name: "P", Terms: []Term{{Name: "f", Args: []Term{x(0), {Name: "c"}}}, x(1)}},
	}}}}}}
	if f := parsed(t, "$A x $E y $| $= x y P $( f $( y c $) x $)"); !Same(f, want) {
		t.Errorf("%v", f)
	}
}

// P25.1: the offsets of what cannot be there, and of what is missing.
func TestParseErrors(t *testing.T) {
	long := strings.Repeat("a", api.MaxLabel+1)
	for s, want := range map[string]struct {
		at int
		e  api.Errno
	}{
		"":                                    {0, api.ErrForm},
		" \t ":                                {3, api.ErrForm},
		"$> p":                                {4, api.ErrForm},
		"$> p ":                               {5, api.ErrForm},
		"$> p q r":                            {7, api.ErrForm},
		"p q":                                 {2, api.ErrForm},
		"p $(":                                {4, api.ErrForm},
		"p $( $)":                             {5, api.ErrForm},
		"p $( x":                              {6, api.ErrForm},
		"p $( x y":                            {8, api.ErrForm},
		"p $( x $) $)":                        {10, api.ErrForm},
		"p $( x $) $( y $)":                   {10, api.ErrForm},
		"p $( f $( $) $)":                     {10, api.ErrForm},
		"p $( $= $)":                          {5, api.ErrForm},
		"p $( x $F $)":                        {7, api.ErrForm},
		"p $( $( x $) $)":                     {5, api.ErrForm},
		"$= x":                                {4, api.ErrForm},
		"$= x $)":                             {5, api.ErrForm},
		"$= x y z":                            {7, api.ErrForm},
		"$= $F x":                             {3, api.ErrForm},
		"$= f $( x $)":                        {12, api.ErrForm},
		"$F $F":                               {3, api.ErrForm},
		"$A":                                  {2, api.ErrForm},
		"$A x":                                {4, api.ErrForm},
		"$A $F":                               {3, api.ErrForm},
		"$A x $)":                             {5, api.ErrForm},
		"$A x y z":                            {7, api.ErrForm},
		"$A x $( y $)":                        {5, api.ErrForm},
		"$E $( x $) p":                        {3, api.ErrForm},
		"$)":                                  {0, api.ErrForm},
		"$(":                                  {0, api.ErrForm},
		"$":                                   {0, api.ErrForm},
		"$X":                                  {0, api.ErrForm},
		"$>p q":                               {0, api.ErrForm},
		"$> p$ q":                             {3, api.ErrForm},
		"$a x p":                              {0, api.ErrForm},
		"$> p " + long:                        {5, api.ErrForm},
		"$A " + long + " p":                   {3, api.ErrForm},
		"$> p \x00":                           {5, token.ErrByte},
		"$) \x7f":                             {3, token.ErrByte},
		"é":                                   {0, token.ErrByte},
		strings.Repeat(" ", api.MaxSource+1):  {0, api.ErrSize},
		strings.Repeat("p ", api.MaxTokens+1): {2 * api.MaxTokens, api.ErrFull},
		"$) " + strings.Repeat("p ", api.MaxTokens):   {3 + 2*(api.MaxTokens-1), api.ErrFull},
		"$) " + strings.Repeat("p ", api.MaxTokens-1): {0, api.ErrForm},
	} {
		if f, at, e := Parse(s); e != want.e || at != want.at || !isZero(f) {
			t.Errorf("%.40q: %v, %d at %d, want %d at %d", s, f, e, at, want.e, want.at)
		}
	}
	if _, _, e := Parse("$> p " + long[1:]); e != api.OK {
		t.Errorf("the longest name: %d", e)
	}
}

// P25.1: texts with as many nodes, and as deep, as may be, and one more.
func TestTextLimits(t *testing.T) {
	for name, x := range map[string]struct {
		s    string
		want api.Errno
	}{
		"4000 nodes":                {"p $(" + strings.Repeat(" a", api.MaxNodes-1) + " $)", api.OK},
		"4001 nodes":                {"p $(" + strings.Repeat(" a", api.MaxNodes) + " $)", api.ErrSize},
		"the depth 100":             {strings.Repeat("$> p ", api.MaxDepth-1) + "p", api.OK},
		"the depth 101":             {strings.Repeat("$> p ", api.MaxDepth) + "p", api.ErrSize},
		"binders of the depth 100":  {strings.Repeat("$A x ", api.MaxDepth-1) + "p", api.OK},
		"binders of the depth 101":  {strings.Repeat("$A x ", api.MaxDepth) + "p", api.ErrSize},
		"terms of the depth 100":    {"p $( " + strings.Repeat("f $( ", api.MaxDepth-2) + "a" + strings.Repeat(" $)", api.MaxDepth-1), api.OK},
		"terms of the depth 101":    {"p $( " + strings.Repeat("f $( ", api.MaxDepth-1) + "a" + strings.Repeat(" $)", api.MaxDepth), api.ErrSize},
		"very deep":                 {strings.Repeat("$A x ", api.MaxTokens/2-1) + "p", api.ErrSize},
		"very deep and not whole":   {strings.Repeat("$A x ", api.MaxTokens/2), api.ErrForm},
		"very deep implications":    {strings.Repeat("$> ", 3999) + strings.Repeat("p ", 4000), api.ErrSize},
		"terms that are very deep":  {"p $( " + strings.Repeat("f $( ", 2600) + "a" + strings.Repeat(" $)", 2601), api.ErrSize},
		"4000 nodes, not too deep":  {"$& " + strings.TrimSuffix(strings.Repeat("$& p ", 98)+"p", " ") + " p", api.OK},
		"as many tokens as may be":  {"p $(" + strings.Repeat(" a", api.MaxTokens-3) + " $)", api.ErrSize},
		"as many bytes as may be":   {"p" + strings.Repeat(" ", api.MaxSource-1), api.OK},
		"one byte more than may be": {"p" + strings.Repeat(" ", api.MaxSource), api.ErrSize},
	} {
		f, at, e := Parse(x.s)
		if at == len(x.s) && e == api.ErrForm {
			at = 0
		}
		if e != x.want || at != 0 || (e == api.OK) == isZero(f) {
			t.Errorf("%s: %d at %d, want %d", name, e, at, x.want)
		}
		if s, e := Text(f); x.want == api.OK && (e != api.OK || s != strings.TrimSpace(strings.ReplaceAll(written(t, parsed(t, s)), "  ", " "))) {
			t.Errorf("%s: %d", name, e)
		}
	}
	// A text of 40000 bytes, and of one more: an atom p with 1024 arguments of 38 bytes, and one more.
	for length, want := range map[int]api.Errno{56: api.OK, 57: api.ErrLarge} {
		f := Formula{Kind: Atom, Name: "p", Terms: slices.Repeat([]Term{{Name: strings.Repeat("a", 38)}}, 1024)}
		f.Terms = append(f.Terms, Term{Name: strings.Repeat("b", length)})
		s, e := Text(f)
		if e != want || (e == api.OK) != (len(s) == api.MaxSource) {
			t.Errorf("an argument of %d bytes: %d bytes, %d, want %d", length, len(s), e, want)
		}
	}
}

// P25.1: formulas that are not well-formed in each way, and which error comes first.
func TestWell(t *testing.T) {
	atom := Formula{Kind: Atom, Name: "p"}
	no := Formula{Kind: Atom}
	bad, loose := Term{Name: "$"}, Term{Index: 1}
	x := Term{Name: "x"}
	deep := binders(All, api.MaxDepth-1, atom)
	huge := chain(1 << 15)
	for name, c := range map[string]struct {
		f    Formula
		want api.Errno
	}{
		"an atom":                       {atom, api.OK},
		"the zero formula":              {Formula{}, api.ErrForm},
		"the kind 9":                    {Formula{Kind: 9}, api.ErrForm},
		"the kind -1":                   {Formula{Kind: -1}, api.ErrForm},
		"an atom without a name":        {no, api.ErrForm},
		"an atom with $":                {Formula{Kind: Atom, Name: "p$"}, api.ErrForm},
		"an atom with a space":          {Formula{Kind: Atom, Name: "p q"}, api.ErrForm},
		"an atom with 60 bytes":         {Formula{Kind: Atom, Name: strings.Repeat("p", 60)}, api.OK},
		"an atom with 61 bytes":         {Formula{Kind: Atom, Name: strings.Repeat("p", 61)}, api.ErrForm},
		"an atom with a part":           {Formula{Kind: Atom, Name: "p", Parts: []Formula{atom}}, api.ErrForm},
		"an atom with no parts":         {Formula{Kind: Atom, Name: "p", Parts: []Formula{}, Terms: []Term{}}, api.OK},
		"an equation":                   {Formula{Kind: Equal, Terms: []Term{x, x}}, api.OK},
		"an equation of one":            {Formula{Kind: Equal, Terms: []Term{x}}, api.ErrForm},
		"an equation of three":          {Formula{Kind: Equal, Terms: []Term{x, x, x}}, api.ErrForm},
		"an equation with a name":       {Formula{Kind: Equal, Name: "p", Terms: []Term{x, x}}, api.ErrForm},
		"an equation with a part":       {Formula{Kind: Equal, Terms: []Term{x, x}, Parts: []Formula{atom}}, api.ErrForm},
		"False":                         {Formula{Kind: False}, api.OK},
		"False with a name":             {Formula{Kind: False, Name: "p"}, api.ErrForm},
		"False with a term":             {Formula{Kind: False, Terms: []Term{x}}, api.ErrForm},
		"False with a part":             {Formula{Kind: False, Parts: []Formula{atom}}, api.ErrForm},
		"an implication":                {Formula{Kind: Implies, Parts: []Formula{atom, atom}}, api.OK},
		"an implication of one":         {Formula{Kind: Implies, Parts: []Formula{atom}}, api.ErrForm},
		"an implication of three":       {Formula{Kind: Implies, Parts: []Formula{atom, atom, atom}}, api.ErrForm},
		"an implication with a name":    {Formula{Kind: Implies, Name: "p", Parts: []Formula{atom, atom}}, api.ErrForm},
		"an implication with a term":    {Formula{Kind: Implies, Terms: []Term{x}, Parts: []Formula{atom, atom}}, api.ErrForm},
		"a conjunction of one":          {Formula{Kind: And, Parts: []Formula{atom}}, api.ErrForm},
		"a conjunction":                 {Formula{Kind: And, Parts: []Formula{atom, atom}}, api.OK},
		"a disjunction of none":         {Formula{Kind: Or}, api.ErrForm},
		"a disjunction":                 {Formula{Kind: Or, Parts: []Formula{atom, atom}}, api.OK},
		"all of two":                    {Formula{Kind: All, Parts: []Formula{atom, atom}}, api.ErrForm},
		"all of none":                   {Formula{Kind: All}, api.ErrForm},
		"all with a name":               {Formula{Kind: All, Name: "x", Parts: []Formula{atom}}, api.ErrForm},
		"some with a term":              {Formula{Kind: Some, Terms: []Term{x}, Parts: []Formula{atom}}, api.ErrForm},
		"some":                          {binders(Some, 1, atom), api.OK},
		"a term with $":                 {Formula{Kind: Atom, Name: "p", Terms: []Term{bad}}, api.ErrForm},
		"a name with an index":          {Formula{Kind: Atom, Name: "p", Terms: []Term{{Name: "x", Index: 1}}}, api.ErrForm},
		"a name with an index below 0":  {Formula{Kind: Atom, Name: "p", Terms: []Term{{Name: "x", Index: -1}}}, api.ErrForm},
		"a variable with an argument":   {binders(All, 1, Formula{Kind: Atom, Name: "p", Terms: []Term{{Args: []Term{x}}}}), api.ErrForm},
		"a variable below 0":            {binders(All, 1, Formula{Kind: Atom, Name: "p", Terms: []Term{{Index: -1}}}), api.ErrForm},
		"a variable without a binder":   {Formula{Kind: Atom, Name: "p", Terms: []Term{{}}}, ErrBound},
		"one of the wrong binder":       {binders(Some, 1, Formula{Kind: Atom, Name: "p", Terms: []Term{loose}}), ErrBound},
		"one in a function":             {binders(Some, 1, Formula{Kind: Equal, Terms: []Term{x, {Name: "f", Args: []Term{x, loose}}}}), ErrBound},
		"of the outer binder":           {binders(Some, 2, Formula{Kind: Atom, Name: "p", Terms: []Term{loose}}), api.OK},
		"beside the binder":             {Formula{Kind: And, Parts: []Formula{binders(All, 1, atom), {Kind: Atom, Name: "p", Terms: []Term{{}}}}}, ErrBound},
		"a great index":                 {binders(All, 1, Formula{Kind: Atom, Name: "p", Terms: []Term{{Index: 1 << 40}}}), ErrBound},
		"the first term ahead":          {Formula{Kind: Atom, Name: "p", Terms: []Term{loose, bad}}, ErrBound},
		"the first term ahead, too":     {Formula{Kind: Atom, Name: "p", Terms: []Term{bad, loose}}, api.ErrForm},
		"a node ahead of its terms":     {Formula{Kind: Atom, Name: "$", Terms: []Term{loose}}, api.ErrForm},
		"a term ahead of its args":      {Formula{Kind: Atom, Name: "p", Terms: []Term{{Name: "$", Args: []Term{loose}}}}, api.ErrForm},
		"the first part ahead":          {Formula{Kind: And, Parts: []Formula{{Kind: Atom, Name: "p", Terms: []Term{loose}}, no}}, ErrBound},
		"the first part ahead, too":     {Formula{Kind: And, Parts: []Formula{no, {Kind: Atom, Name: "p", Terms: []Term{loose}}}}, api.ErrForm},
		"the depth 100":                 {deep, api.OK},
		"the depth 101":                 {binders(All, 1, deep), api.ErrSize},
		"the depth 100 of terms":        {Formula{Kind: Atom, Name: "p", Terms: []Term{tower(99)}}, api.OK},
		"the depth 101 of terms":        {Formula{Kind: Atom, Name: "p", Terms: []Term{tower(100)}}, api.ErrSize},
		"4000 nodes":                    {wide(4000), api.OK},
		"4001 nodes":                    {wide(4001), api.ErrSize},
		"4001 nodes, of which one none": {Formula{Kind: Atom, Terms: slices.Repeat([]Term{{}}, 4000)}, api.ErrSize},
		"4000 nodes, of which one none": {Formula{Kind: Atom, Terms: slices.Repeat([]Term{{}}, 3999)}, api.ErrForm},
		"very deep":                     {huge, api.ErrSize},
		"very deep, of no form":         {Formula{Parts: []Formula{huge}}, api.ErrSize},
		"very deep parts of an atom":    {Formula{Kind: Atom, Name: "p", Parts: []Formula{deep}}, api.ErrSize},
	} {
		if e := Well(c.f); e != c.want {
			t.Errorf("%s: %d, want %d", name, e, c.want)
		}
		s, e := Text(c.f)
		if e != c.want && (name != "4000 nodes" || e != api.OK) || e != api.OK && s != "" {
			t.Errorf("%s: Text: %d, want %d", name, e, c.want)
		}
		if _, e := Holds(c.f, nil); c.want != api.OK && e != c.want {
			t.Errorf("%s: Holds: %d, want %d", name, e, c.want)
		}
	}
}

// P25.1: any values are compared, and their parameters and sizes are told.
func TestAnyValues(t *testing.T) {
	huge := chain(1 << 15)
	l := []Formula{
		{}, {Kind: 9}, {Kind: Atom}, {Kind: Atom, Name: "p"}, {Kind: Atom, Name: "q"}, {Kind: All, Name: "p"},
		{Kind: Atom, Name: "p", Terms: []Term{{}}}, {Kind: Atom, Name: "p", Terms: []Term{{Name: "x"}}}, {Kind: Atom, Name: "p", Terms: []Term{{Index: 1}}},
		{Kind: Atom, Name: "p", Terms: []Term{{Name: "x", Index: 1}}}, {Kind: Atom, Name: "p", Terms: []Term{{Name: "x", Args: []Term{{Name: "y"}}}}},
		{Kind: Atom, Name: "p", Terms: []Term{{Name: "x"}, {Name: "y"}}}, {Kind: Atom, Name: "p", Terms: []Term{{Name: "y"}, {Name: "x"}}},
		{Kind: Atom, Name: "p", Parts: []Formula{{}}}, {Kind: Atom, Name: "p", Parts: []Formula{{}, {}}}, {Kind: Implies, Parts: []Formula{{Kind: False}, {}}},
		{Kind: Implies, Parts: []Formula{{}, {Kind: False}}}, huge,
	}
	for i, f := range l {
		for j, g := range l {
			if Same(f, g) != (i == j) {
				t.Errorf("%d and %d: %t", i, j, Same(f, g))
			}
		}
	}
	if !Same(Formula{Terms: []Term{}, Parts: []Formula{}}, Formula{}) || !Same(Formula{Terms: []Term{{Args: []Term{}}}}, Formula{Terms: []Term{{}}}) {
		t.Error("nil and empty lists differ")
	}
	for want, f := range map[string]Formula{
		"":        {Kind: 77, Parts: []Formula{{}, {Terms: []Term{{}, {Index: 3}}}}},
		"a b x y": {Name: "p", Terms: []Term{{Name: "y"}, {Name: "f", Args: []Term{{Name: "x"}, {Name: "b"}}}}, Parts: []Formula{{Kind: False, Terms: []Term{{Name: "a"}, {Name: "x"}}}}},
		"c":       binders(All, 1<<12, Formula{Kind: Atom, Name: "p", Terms: []Term{{Name: "c"}, {Args: []Term{{Name: "c"}}}}}),
	} {
		if got := strings.Join(Free(f), " "); got != want {
			t.Errorf("%q, want %q", got, want)
		}
	}
	var d Derivation
	for range 1<<15 - 1 {
		d = Derivation{Kids: []Derivation{d}}
	}
	d = Derivation{Kids: []Derivation{{}, d, {Kids: []Derivation{{}, {}}}}}
	if nodes, depth := Size(d); nodes != 1<<15+5 || depth != 1<<15+1 {
		t.Errorf("%d, %d", nodes, depth)
	}
	if nodes, depth := Size(Derivation{}); nodes != 1 || depth != 1 {
		t.Errorf("%d, %d", nodes, depth)
	}
}

// P25.1, P25.3: substitution by hand.
func TestSubstitution(t *testing.T) {
	for _, x := range []struct{ f, name, term, want string }{
		{"P $( x $)", "x", "a", "P $( a $)"},
		{"P $( x $)", "y", "a", "P $( x $)"},
		{"x", "x", "a", "x"},
		{"P $( x $( x $) $)", "x", "a", "P $( x $( a $) $)"},
		{"$A y $& $= x y $E x $= x y", "x", "f $( y $)", "$A v0 $& $= f $( y $) v0 $E v1 $= v1 v0"},
		{"$& $= x y $= y x", "x", "y", "$& $= y y $= y y"},
		{"$= x x", "x", "g $( x x $)", "$= g $( x x $) g $( x x $)"},
		{"$F", "x", "a", "$F"},
	} {
		f, term := parsed(t, x.f), parsed(t, "t $( "+x.term+" $)").Terms[0]
		g, e := Replaced(f, x.name, term)
		if e != api.OK || written(t, g) != x.want {
			t.Errorf("Replaced %v: %v, %d", x, g, e)
		}
		for _, kind := range []int{All, Some} {
			q, e := Abstract(kind, f, x.name)
			if want := parsed(t, signOf(kind)+" "+x.name+" "+x.f); e != api.OK || !Same(q, want) {
				t.Errorf("Abstract %v: %v, %d, want %v", x, q, e, want)
			}
			if g, e := Instance(q, term); e != api.OK || written(t, g) != x.want {
				t.Errorf("Instance %v: %v, %d", x, g, e)
			}
		}
	}
}

// P25.1: the errors of substitution, in their order, and its limits.
func TestSubstitutionErrors(t *testing.T) {
	p, no := Formula{Kind: Atom, Name: "p"}, Formula{Kind: Atom}
	a, loose := Term{Name: "a"}, Term{Index: 0}
	all := binders(All, 1, Formula{Kind: Atom, Name: "p", Terms: []Term{{}, {Name: "x"}}})
	many := binders(All, 1, Formula{Kind: Atom, Name: "p", Terms: slices.Repeat([]Term{{}}, 999)}) // 1001 nodes
	half := binders(Some, 50, Formula{Kind: Atom, Name: "p", Terms: []Term{{Index: 49}, {Name: "x"}}})
	four := Term{Name: "f", Args: []Term{a, a, a}}
	five := Term{Name: "f", Args: []Term{a, a, a, a}}
	for name, x := range map[string]struct {
		f    Formula
		t    Term
		want api.Errno
	}{
		"right":                      {all, a, api.OK},
		"a formula of no form":       {no, loose, api.ErrForm},
		"a formula that is too deep": {binders(All, 100, p), loose, api.ErrSize},
		"a loose term":               {all, loose, ErrBound},
		"a term of no form":          {all, Term{Name: "f", Args: []Term{{Name: "$"}}}, api.ErrForm},
		"a term with an index":       {all, Term{Name: "a", Index: 1}, api.ErrForm},
		"a term that is too deep":    {p, tower(101), api.ErrSize},
		"a term of the depth 100":    {p, tower(100), api.ErrArg},
		"a term of 4000 nodes":       {p, Term{Name: "f", Args: slices.Repeat([]Term{a}, 3999)}, api.ErrArg},
		"a term of 4001 nodes":       {p, Term{Name: "f", Args: slices.Repeat([]Term{a}, 4000)}, api.ErrSize},
		"an atom":                    {p, a, api.ErrArg},
		"an implication":             {Formula{Kind: Implies, Parts: []Formula{all, all}}, a, api.ErrArg},
		"3997 nodes":                 {many, four, api.OK},
		"4996 nodes":                 {many, five, api.ErrLarge},
		"the depth 100":              {half, tower(50), api.OK},
		"the depth 101":              {half, tower(51), api.ErrLarge},
		"nothing to put in":          {binders(All, 1, p), tower(100), api.OK},
	} {
		g, e := Instance(x.f, x.t)
		if e != x.want || (e == api.OK) == isZero(g) {
			t.Errorf("%s: %v, %d, want %d", name, g, e, x.want)
		}
	}
	for name, x := range map[string]struct {
		kind int
		f    Formula
		name string
		want api.Errno
	}{
		"right":                  {All, all, "x", api.OK},
		"a parameter that is no": {Some, all, "y", api.OK},
		"an implication":         {Implies, no, "$", api.ErrArg},
		"the kind 0":             {0, all, "x", api.ErrArg},
		"the kind 9":             {9, all, "x", api.ErrArg},
		"a formula of no form":   {All, no, "$", api.ErrForm},
		"a loose formula":        {All, all.Parts[0], "$", ErrBound},
		"one that is too deep":   {All, binders(All, 100, p), "$", api.ErrSize},
		"no name":                {All, all, "", api.ErrForm},
		"a keyword as a name":    {All, wide(4000), "$A", api.ErrForm},
		"3999 nodes":             {All, wide(3999), "a", api.OK},
		"4000 nodes":             {All, wide(4000), "a", api.ErrLarge},
		"the depth 99":           {Some, binders(All, 98, p), "a", api.OK},
		"the depth 100":          {Some, binders(All, 99, p), "a", api.ErrLarge},
	} {
		g, e := Abstract(x.kind, x.f, x.name)
		if e != x.want || (e == api.OK) == isZero(g) {
			t.Errorf("Abstract: %s: %v, %d, want %d", name, g, e, x.want)
		}
	}
	thousand := Formula{Kind: Atom, Name: "p", Terms: slices.Repeat([]Term{a}, 1000)} // 1001 nodes
	for name, x := range map[string]struct {
		f    Formula
		name string
		t    Term
		want api.Errno
	}{
		"right":                   {all, "x", a, api.OK},
		"a formula of no form":    {no, "$", loose, api.ErrForm},
		"a loose formula":         {all.Parts[0], "$", Term{Name: "$"}, ErrBound},
		"a loose term":            {all, "$", loose, ErrBound},
		"a term that is too big":  {all, "$", tower(101), api.ErrSize},
		"no name":                 {all, "", a, api.ErrForm},
		"a name with a space":     {all, "x y", a, api.ErrForm},
		"3001 nodes":              {thousand, "a", Term{Name: "f", Args: []Term{a, a}}, api.OK},
		"4001 nodes":              {thousand, "a", four, api.ErrLarge},
		"4000 nodes":              {Formula{Kind: Atom, Name: "p", Terms: append(slices.Repeat([]Term{a}, 999), Term{Name: "b"}, Term{Name: "b"}, Term{Name: "b"})}, "a", four, api.OK},
		"the depth 100":           {half, "x", tower(49), api.OK},
		"the depth 101":           {half, "x", tower(50), api.ErrLarge},
		"one that does not occur": {p, "x", tower(100), api.OK},
	} {
		g, e := Replaced(x.f, x.name, x.t)
		if e != x.want || (e == api.OK) == isZero(g) {
			t.Errorf("Replaced: %s: %v, %d, want %d", name, g, e, x.want)
		}
	}
}

// P25.1: truth values, and the formulas that have none.
func TestHolds(t *testing.T) {
	for s, want := range map[string]string{ // those of p q under none, p, q, both
		"p": "0101", "$F": "0000", "$> p q": "1011", "$& p q": "0001", "$| p q": "0111",
		"$> p $F": "1010", "$> $> p $F q": "0111", "$& $| p q $> q p": "0101", "$> $F p": "1111", "$| r $F": "0000", "$> r r": "1111",
	} {
		got := ""
		for _, atoms := range [][]string{nil, {"p"}, {"q"}, {"q", "x", "p", "q"}} {
			is, e := Holds(parsed(t, s), atoms)
			if e != api.OK {
				t.Errorf("%q: %d", s, e)
			}
			got += map[bool]string{false: "0", true: "1"}[is]
		}
		if got != want {
			t.Errorf("%q: %s, want %s", s, got, want)
		}
	}
	for _, s := range []string{"P $( x $)", "$= x x", "$A x p", "$E x p", "$> p $& q $A x p", "$| $| p p $= x y", "$& $> p P $( a $) q"} {
		if is, e := Holds(parsed(t, s), []string{"p", "P", "q"}); e != api.ErrForm || is {
			t.Errorf("%q: %t, %d", s, is, e)
		}
	}
	if _, e := Holds(Formula{Kind: Or, Parts: []Formula{{Kind: Equal, Terms: []Term{{}, {}}}, {Kind: 9}}}, nil); e != ErrBound {
		t.Errorf("the error of the formula: %d", e)
	}
}

// R4: arguments do not change, and results are new memory.
func TestMemory(t *testing.T) {
	const text = "$A x $> P $( x f $( c $) $) $E y $= x c"
	f, term := parsed(t, text), Term{Name: "g", Args: []Term{{Name: "c"}}}
	for range 2 {
		g, _ := Instance(f, term)
		h, _ := Abstract(Some, f, "c")
		i, _ := Replaced(f, "c", term)
		j, _, _ := Check([]Formula{f}, nil, Derivation{Rule: Axiom})
		k, _, _ := Check([]Formula{f}, nil, Derivation{Rule: AndIn, Kids: []Derivation{{Rule: Axiom}, {Rule: Axiom}}})
		r, _, _ := Check(nil, nil, Derivation{Rule: Reflexive, Term: term})
		for _, x := range []*Formula{&g, &h, &i, &j, &k, &r} {
			spoil(x)
		}
		if written(t, f) != strings.NewReplacer("x", "v0", "y", "v1").Replace(text) || term.Name != "g" || term.Args[0].Name != "c" {
			t.Fatalf("%v, %v", f, term)
		}
	}
	k, _, _ := Check([]Formula{f}, nil, Derivation{Rule: AndIn, Kids: []Derivation{{Rule: Axiom}, {Rule: Axiom}}})
	spoil(&k.Parts[0])
	if !Same(k.Parts[1], f) {
		t.Errorf("both parts share memory: %v", k)
	}
	r, _, _ := Check(nil, nil, Derivation{Rule: Reflexive, Term: term})
	r.Terms[0].Args[0].Name = "no"
	if r.Terms[1].Args[0].Name != "c" {
		t.Errorf("both sides share memory: %v", r)
	}
}

// spoil changes all of a formula.
func spoil(f *Formula) {
	for n := range nodes(node{formula: f}) {
		if n.term != nil {
			n.term.Name += strconv.Itoa(n.around) + "no"
			n.term.Index++
		} else {
			n.formula.Kind++
			n.formula.Name += "no"
		}
	}
}
