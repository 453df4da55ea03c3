package deduct

import (
	"slices"
	"strconv"
	"strings"
	"testing"

	"apodixis/api"
	"apodixis/carry"
	"apodixis/natural"
)

// logic has a label of one letter for each rule and axiom.
func logic() carry.Logic {
	return carry.Logic{Mp: "m", Gen: "g", Simp: "s", Frege: "f", Transp: "t", Dist: "d", Vacuous: "v", Spec: "p", Refl: "r", Eucl: "e"}
}

// parsed returns the formula of a text.
func parsed(t *testing.T, s string) natural.Formula {
	t.Helper()
	f, at, e := natural.Parse(s)
	if e != api.OK {
		t.Fatalf("%q: %d at %d", s, e, at)
	}
	return f
}

// text returns the text of a formula.
func text(t *testing.T, f natural.Formula) string {
	t.Helper()
	s, e := natural.Text(f)
	if e != api.OK {
		t.Fatalf("%v: %d", f, e)
	}
	return s
}

// lines reads lines such as "m 0 1 : $> p q" or "g 2 x : $A x p"; one without a label is a hypothesis.
func lines(t *testing.T, s string) []Line {
	t.Helper()
	var l []Line
	for _, part := range strings.Split(s, ";") {
		head, formula, ok := strings.Cut(part, " : ")
		if !ok {
			continue
		}
		x := Line{Formula: parsed(t, formula)}
		for n, w := range strings.Fields(head) {
			number, e := strconv.Atoi(w)
			switch {
			case e == nil:
				x.From = append(x.From, number)
			case n == 0:
				x.Label = w
			default:
				x.Name = w
			}
		}
		l = append(l, x)
	}
	return l
}

// written returns the text of lines.
func written(t *testing.T, l []Line) string {
	t.Helper()
	var result []string
	for _, x := range l {
		s := x.Label
		for _, n := range x.From {
			s += " " + strconv.Itoa(n)
		}
		if x.Name != "" {
			s += " " + x.Name
		}
		result = append(result, strings.TrimSpace(s)+" : "+text(t, x.Formula))
	}
	return strings.Join(result, " ; ")
}

// formulas returns the formulas of texts with a semicolon between them.
func formulas(t *testing.T, s string) []natural.Formula {
	t.Helper()
	var l []natural.Formula
	for _, part := range strings.Split(s, ";") {
		if strings.TrimSpace(part) != "" {
			l = append(l, parsed(t, part))
		}
	}
	return l
}

// sameLines reports whether lines are equal in all fields.
func sameLines(a, b []Line) bool {
	return slices.EqualFunc(a, b, func(x, y Line) bool {
		return x.Label == y.Label && x.Name == y.Name && slices.Equal(x.From, y.From) && natural.Same(x.Formula, y.Formula)
	})
}

// deep returns a formula of a depth.
func deep(depth int) natural.Formula {
	f := natural.Formula{Kind: natural.Atom, Name: "p"}
	for range depth - 1 {
		f = natural.Formula{Kind: natural.Implies, Parts: []natural.Formula{{Kind: natural.Atom, Name: "p"}, f}}
	}
	return f
}

// P27.1: which line follows, by each label and in each way in which it does not.
func TestFollows(t *testing.T) {
	const px, all = "P $( x $)", "$A y P $( y $)"
	ahead := lines(t, "0 : p ; 1 : $> p q ; 2 : "+px)
	hyps := formulas(t, "p ; $> p q ; "+px)
	for s, want := range map[string]bool{
		// hypotheses
		"0 : p": true, "1 : $> p q": true, "1 : p": false, "3 : p": false, "-1 : p": false, " : p": false, "0 0 : p": false, "2 : " + px: true,
		// Mp
		"m 0 1 : q": true, "m 1 0 : q": false, "m 0 1 : p": false, "m 0 0 : q": false, "m 1 1 : q": false, "m 0 : q": false, "m 0 1 0 : q": false, "m : q": false, "m 0 3 : q": false, "m 0 -1 : q": false, "m 2 1 : q": false, "m 0 1 x : q": false,
		// Gen
		"g 2 x : " + all: true, "g 2 y : $A v P $( x $)": true, "g 2 y : " + all: false, "g 2 x : $E y P $( y $)": false, "g 2 : " + all: false, "g x : " + all: false, "g 2 2 x : " + all: false, "g 0 x : " + all: false, "g 3 x : " + all: false, "g 2 x : $A y P $( x $)": false, "g 0 x : $A x p": true, "g 2 $ : $A v P $( x $)": false, "g 2 P : $A v P $( x $)": true,
		// Simp
		"s : $> p $> q p": true, "s : $> p $> p p": true, "s : $> p $> q q": false, "s : $> p q": false, "s : p": false, "s 0 : $> p $> q p": false, "s x : $> p $> q p": false, "s : $& p $> q p": false, "s : $> p $& q p": false, "s : $> $A x p $> q $A y p": true, "s : $> P $( x $) $> q P $( y $)": false,
		// Frege
		"f : $> $> p $> q r $> $> p q $> p r": true, "f : $> $> p $> p p $> $> p p $> p p": true, "f : $> $> p $> q r $> $> p r $> p q": false, "f : $> $> p $> q r $> $> p q $> q r": false, "f : $> $> p $> q r $> $> p q r": false, "f : $> $> p q $> $> p q $> p r": false, "f 0 : $> $> p $> q r $> $> p q $> p r": false,
		// Transp
		"t : $> $> $> p $F $> q $F $> q p": true, "t : $> $> $> p $F $> q $F $> p q": false, "t : $> $> $> p r $> q r $> q p": false, "t : $> $> $> p $F $> q r $> q p": false, "t : $> $> $> $F $F $> $F $F $> $F $F": true, "t : $> $> p q $> q p": false,
		// Dist
		"d : $> $A x $> P $( x $) Q $( x $) $> $A x P $( x $) $A x Q $( x $)": true, "d : $> $A x $> p q $> $A y p $A z q": true, "d : $> $A x $> P $( x $) Q $( x $) $> $A x Q $( x $) $A x P $( x $)": false, "d : $> $A x $> P $( x $) q $> $A x P $( y $) $A x q": false, "d : $> $A x $& p q $> $A x p $A x q": false, "d : $> $> p q $> p q": false, "d : $> $E x $> p q $> $E x p $E x q": false, "d x : $> $A x $> p q $> $A y p $A z q": false,
		// Vacuous
		"v : $> p $A x p": true, "v : $> P $( x $) $A y P $( x $)": true, "v : $> P $( x $) $A x P $( x $)": false, "v : $> $A x P $( x $) $A y $A x P $( x $)": true, "v : $> $A x P $( x $) $A y $A x P $( y $)": false, "v : $> p $E x p": false, "v : $> p $A x q": false, "v x : $> p $A x p": false, "v : $> $A z Q $( z x $) $A x $A z Q $( z x $)": false,
		// Spec
		"p x : $> $A y P $( y $) P $( x $)": true, "p x : $> $A y P $( y $) P $( y $)": false, "p y : $> $A y P $( y $) P $( y $)": true, "p : $> $A y P $( y $) P $( y $)": false, "p x : $> $A y p p": true, "p x : $> $A y P $( x $) P $( x $)": false, "p y : $> $A y P $( x $) P $( x $)": true, "p x : $> $A y Q $( y y $) Q $( x x $)": true, "p x : $> $A y Q $( y x $) Q $( x x $)": false, "p x : p": false, "p x : $> $E y P $( y $) P $( x $)": false, "p x 0 : $> $A y P $( y $) P $( x $)": false,
		// Refl
		"r : $= x x": true, "r : $= f $( x y $) f $( x y $)": true, "r : $= x y": false, "r : $= f $( x y $) f $( x x $)": false, "r : p": false, "r 0 : $= x x": false, "r x : $= x x": false,
		// Eucl
		"e : $> $= x y $> $= x z $= y z": true, "e : $> $= x x $> $= x x $= x x": true, "e : $> $= f $( a $) y $> $= f $( a $) z $= y z": true, "e : $> $= x y $> $= y z $= x z": false, "e : $> $= x y $> $= x z $= z y": false, "e : $> $= x y $> $= z x $= y z": false, "e : $> $= x y $= y x": false, "e : $> p $> $= x z $= y z": false,
		// labels that no field has
		"x : p": false, "mp 0 1 : q": false, "M 0 1 : q": false,
	} {
		x := lines(t, " "+s)
		n, e := Check(logic(), append(slices.Clone(ahead), x...), hyps)
		if want && (n != 0 || e != api.OK) || !want && (n != 3 || e != ErrLine) {
			t.Errorf("%q: %d, %d", s, n, e)
		}
	}
}

// P27.1: the errors of Check, formulas that are not well-formed, and labels of several fields.
func TestCheck(t *testing.T) {
	l := logic()
	p := parsed(t, "p")
	no, loose := natural.Formula{Kind: natural.Atom}, natural.Formula{Kind: natural.Atom, Name: "p", Terms: []natural.Term{{}}}
	many := slices.Repeat(lines(t, "0 : p"), api.MaxSteps)
	late := append(slices.Clone(many[:1999]), Line{Label: "x", Formula: p})
	for name, x := range map[string]struct {
		l    carry.Logic
		x    []Line
		hyps []natural.Formula
		n    int
		want api.Errno
	}{
		"right":                        {l, many[:1], []natural.Formula{p}, 0, api.OK},
		"a hypothesis of no form":      {l, nil, []natural.Formula{p, no, loose}, 0, api.ErrForm},
		"a loose hypothesis":           {l, late, []natural.Formula{p, loose, no}, 0, natural.ErrBound},
		"one that is too deep":         {l, many[:1], []natural.Formula{p, deep(101)}, 0, api.ErrSize},
		"one that is not":              {l, many[:1], []natural.Formula{p, deep(100)}, 0, api.OK},
		"no line":                      {l, nil, nil, 0, api.ErrSize},
		"no line, empty":               {l, []Line{}, []natural.Formula{p}, 0, api.ErrSize},
		"2000 lines":                   {l, many, []natural.Formula{p}, 0, api.OK},
		"2001 lines":                   {l, append(slices.Clone(late), late...)[:2001], []natural.Formula{p}, 0, api.ErrSize},
		"the last one":                 {l, late, []natural.Formula{p}, 1999, ErrLine},
		"the first one":                {l, late, nil, 0, ErrLine},
		"a line of no form":            {l, []Line{{Formula: no, From: []int{0}}}, []natural.Formula{p}, 0, ErrLine},
		"a loose line":                 {l, []Line{{Formula: p, From: []int{0}}, {Label: "v", Formula: natural.Formula{Kind: natural.Implies, Parts: []natural.Formula{loose, {Kind: natural.All, Parts: []natural.Formula{loose}}}}}}, []natural.Formula{p}, 1, ErrLine},
		"a line that is too deep":      {l, []Line{{Label: "s", Formula: natural.Formula{Kind: natural.Implies, Parts: []natural.Formula{deep(99), {Kind: natural.Implies, Parts: []natural.Formula{p, deep(99)}}}}}}, nil, 0, ErrLine},
		"one that is not, of Simp":     {l, []Line{{Label: "s", Formula: natural.Formula{Kind: natural.Implies, Parts: []natural.Formula{deep(98), {Kind: natural.Implies, Parts: []natural.Formula{p, deep(98)}}}}}}, nil, 0, api.OK},
		"a Gen that would be too deep": {l, []Line{{Formula: deep(100), From: []int{0}}, {Label: "g", Name: "x", Formula: p, From: []int{0}}}, []natural.Formula{deep(100)}, 1, ErrLine},
		"an empty logic":               {carry.Logic{}, many[:1], []natural.Formula{p}, 0, api.OK},
		"an empty logic, an axiom":     {carry.Logic{}, lines(t, "s : $> p $> q p"), nil, 0, ErrLine},
		"no label is a hypothesis":     {carry.Logic{}, []Line{{Formula: parsed(t, "$> p $> q p")}}, nil, 0, ErrLine},
		"Mp and Simp, as Mp":           {carry.Logic{Mp: "m", Simp: "m"}, lines(t, "0 : p ; 1 : $> p q ; m 0 1 : q"), formulas(t, "p ; $> p q"), 0, api.OK},
		"Mp and Simp, as Simp":         {carry.Logic{Mp: "m", Simp: "m"}, lines(t, "m : $> p $> q p"), nil, 0, ErrLine},
		"Simp and Frege, as Simp":      {carry.Logic{Frege: "m", Simp: "m"}, lines(t, "m : $> p $> q p"), nil, 0, api.OK},
		"Refl and Eucl, as Eucl":       {carry.Logic{Refl: "m", Eucl: "m"}, lines(t, "m : $> $= x y $> $= x z $= y z"), nil, 0, ErrLine},
		"labels of syntax":             {carry.Logic{Imp: "m", Set: "s", All: "g"}, lines(t, "0 : p ; 1 : $> p q ; m 0 1 : q"), formulas(t, "p ; $> p q"), 2, ErrLine},
	} {
		if n, e := Check(x.l, x.x, x.hyps); n != x.n || e != x.want {
			t.Errorf("%s: %d, %d, want %d, %d", name, n, e, x.n, x.want)
		}
		if out, e := Lift(x.l, x.x, x.hyps); x.want != api.OK && (e != x.want || len(out) > 0) {
			t.Errorf("%s: Lift: %d", name, e)
		}
	}
}

// same is what Lift appends for H, with the number of its first line.
func same(h string, n int) string {
	number := func(k int) string { return itoa(n + k) }
	hh := "$> " + h + " " + h
	return "f : $> $> " + h + " $> " + hh + " " + h + " $> $> " + h + " " + hh + " " + hh + " ; s : $> " + h + " $> " + hh + " " + h +
		" ; m " + number(1) + " " + number(0) + " : $> $> " + h + " " + hh + " " + hh + " ; s : $> " + h + " " + hh + " ; m " + number(3) + " " + number(2) + " : " + hh
}

// P27.1: the lines of Lift, one by one.
func TestLift(t *testing.T) {
	for name, x := range map[string]struct{ lines, hyps, want string }{
		"H":                       {"0 : h", "h", same("h", 0)},
		"H of two":                {"1 : h", "k ; h", same("h", 0)},
		"another hypothesis":      {"0 : k", "k ; h", "0 : k ; s : $> k $> h k ; m 0 1 : $> h k"},
		"an equal one":            {"0 : h", "h ; h", "0 : h ; s : $> h $> h h ; m 0 1 : $> h h"},
		"an axiom":                {"r : $= a a", "h", "r : $= a a ; s : $> $= a a $> h $= a a ; m 0 1 : $> h $= a a"},
		"an Mp of H":              {"1 : h ; 0 : $> h k ; m 0 1 : k", "$> h k ; h", "0 : $> h k ; s : $> $> h k $> h $> h k ; m 0 1 : $> h $> h k ; " + same("h", 3) + " ; f : $> $> h $> h k $> $> h h $> h k ; m 2 8 : $> $> h h $> h k ; m 7 9 : $> h k"},
		"an Mp without":           {"0 : p ; 1 : $> p q ; m 0 1 : q", "p ; $> p q ; h", "0 : p ; 1 : $> p q ; m 0 1 : q ; s : $> q $> h q ; m 2 3 : $> h q"},
		"an Mp of False without":  {"0 : p ; 1 : $> p $F ; m 0 1 : $F", "p ; $> p $F ; h", "1 : $> p $F ; s : $> $> p $F $> h $> p $F ; m 0 1 : $> h $> p $F ; 0 : p ; s : $> p $> h p ; m 3 4 : $> h p ; f : $> $> h $> p $F $> $> h p $> h $F ; m 2 6 : $> $> h p $> h $F ; m 5 7 : $> h $F"},
		"False as a hypothesis":   {"0 : $F", "$F ; h", "0 : $F ; s : $> $F $> h $F ; m 0 1 : $> h $F"},
		"a Gen without":           {"0 : P $( x $) ; g 0 x : $A y P $( y $)", "P $( x $) ; Q $( x $)", "0 : P $( x $) ; g 0 x : $A y P $( y $) ; s : $> $A y P $( y $) $> Q $( x $) $A y P $( y $) ; m 1 2 : $> Q $( x $) $A y P $( y $)"},
		"a Gen of H":              {"0 : h ; g 0 x : $A x h", "h", same("h", 0) + " ; g 4 x : $A x $> h h ; d : $> $A x $> h h $> $A x h $A x h ; m 5 6 : $> $A x h $A x h ; s : $> $> $A x h $A x h $> h $> $A x h $A x h ; m 7 8 : $> h $> $A x h $A x h ; f : $> $> h $> $A x h $A x h $> $> h $A x h $> h $A x h ; m 9 10 : $> $> h $A x h $> h $A x h ; v : $> h $A x h ; m 12 11 : $> h $A x h"},
		"what is not needed":      {"0 : h ; s : $> p $> p p ; r : $= a a", "h", "r : $= a a ; s : $> $= a a $> h $= a a ; m 0 1 : $> h $= a a"},
		"what is used twice":      {"0 : p ; s : $> p $> p p ; m 0 1 : $> p p ; m 0 2 : p", "p ; h", "0 : p ; s : $> p $> p p ; m 0 1 : $> p p ; m 0 2 : p ; s : $> p $> h p ; m 3 4 : $> h p"},
		"what is lifted twice":    {"0 : h ; s : $> h $> h h ; m 0 1 : $> h h ; m 0 2 : h", "h", ""},
		"plain and lifted":        {"0 : p ; s : $> p $> h p ; 1 : h ; m 0 1 : $> h p ; m 2 3 : p", "p ; h", ""},
		"a Gen of what is lifted": {"0 : k ; 1 : $> k P $( x $) ; m 0 1 : P $( x $) ; g 2 x : $A y P $( y $)", "k ; $> k P $( x $) ; h", "0 : k ; 1 : $> k P $( x $) ; m 0 1 : P $( x $) ; g 2 x : $A y P $( y $) ; s : $> $A y P $( y $) $> h $A y P $( y $) ; m 3 4 : $> h $A y P $( y $)"},
	} {
		given, hyps := lines(t, x.lines), formulas(t, x.hyps)
		got, e := Lift(logic(), given, hyps)
		if e != api.OK {
			t.Errorf("%s: %d", name, e)
			continue
		}
		if want := lines(t, x.want); x.want != "" && !sameLines(got, want) {
			t.Errorf("%s: %s, want %s", name, written(t, got), written(t, want))
		}
		if model, e := liftModel(logic(), given, hyps); e != api.OK || !sameLines(got, model) {
			t.Errorf("%s: %s, but the model %s", name, written(t, got), written(t, model))
		}
		checkLifted(t, logic(), given, hyps, got)
	}
}

// checkLifted checks P27.2.
func checkLifted(t *testing.T, l carry.Logic, given []Line, hyps []natural.Formula, got []Line) {
	t.Helper()
	last := len(hyps) - 1
	want := natural.Formula{Kind: natural.Implies, Parts: []natural.Formula{hyps[last], given[len(given)-1].Formula}}
	if n, e := Check(l, got, hyps[:last]); e != api.OK || !natural.Same(got[len(got)-1].Formula, want) {
		t.Fatalf("%s: %d at %d", written(t, got), e, n)
	}
}

// P27.1: the errors of Lift: labels that lack or mean others, parameters of H, and lines that are too many or too large.
func TestLiftErrors(t *testing.T) {
	l := logic()
	without := func(fields ...*string) carry.Logic {
		saved := l
		for _, f := range fields {
			*f = ""
		}
		result := l
		l = saved
		return result
	}
	twice := logic()
	twice.Simp = "m"
	other := logic()
	other.Frege = "s"
	const gen = "0 : h ; g 0 x : $A x h"
	for name, x := range map[string]struct {
		l           carry.Logic
		lines, hyps string
		want        api.Errno
	}{
		"no hypothesis":                  {l, "r : $= a a", "", api.ErrArg},
		"no hypothesis, no line":         {l, "", "", api.ErrSize},
		"no hypothesis, no following":    {l, "r : $= a b", "", ErrLine},
		"H without Simp":                 {without(&l.Simp), "0 : h", "h", ErrFragment},
		"H without Frege":                {without(&l.Frege), "0 : h", "h", ErrFragment},
		"H without Mp":                   {without(&l.Mp), "0 : h", "h", ErrFragment},
		"H without the others":           {without(&l.Gen, &l.Transp, &l.Dist, &l.Vacuous, &l.Spec, &l.Refl, &l.Eucl), "0 : h", "h", api.OK},
		"another one without Frege":      {without(&l.Frege), "0 : k", "k ; h", api.OK},
		"another one without Simp":       {without(&l.Simp), "0 : k", "k ; h", ErrFragment},
		"another one without Mp":         {without(&l.Mp), "0 : k", "k ; h", ErrFragment},
		"Simp means Mp":                  {twice, "0 : k", "k ; h", ErrFragment},
		"Frege means Simp":               {other, "0 : h", "h", ErrFragment},
		"Frege means Simp, not needed":   {other, "0 : k", "k ; h", api.OK},
		"a Gen":                          {l, gen, "h", api.OK},
		"a Gen without Dist":             {without(&l.Dist), gen, "h", ErrFragment},
		"a Gen without Vacuous":          {without(&l.Vacuous), gen, "h", ErrFragment},
		"a Gen without Dist, not needed": {without(&l.Dist, &l.Vacuous), "0 : k ; g 0 x : $A x k", "k ; h", api.OK},
		"a parameter of H":               {l, "0 : P $( x $) ; g 0 x : $A x P $( x $)", "P $( x $)", ErrFragment},
		"another parameter of H":         {l, "0 : P $( x $) ; g 0 y : $A y P $( x $)", "P $( x $)", api.OK},
		"a parameter, without H":         {l, "0 : P $( x $) ; g 0 x : $A x P $( x $)", "P $( x $) ; Q $( x $)", api.OK},
		"a parameter inside":             {l, "0 : $A y Q $( x y $) ; g 0 x : $A x $A y Q $( x y $)", "$A y Q $( x y $)", ErrFragment},
		"an atom of this name":           {l, "0 : x ; g 0 x : $A y x", "x", api.OK},
	} {
		given, hyps := lines(t, x.lines), formulas(t, x.hyps)
		got, e := Lift(x.l, given, hyps)
		if e != x.want || (len(got) == 0) != (e != api.OK) {
			t.Errorf("%s: %d, want %d", name, e, x.want)
		}
		if model, wrong := liftModel(x.l, given, hyps); wrong != e || !sameLines(got, model) {
			t.Errorf("%s: the model: %d, want %d", name, wrong, e)
		}
	}
}

// P27.1: lifted lines as many and as large as may be, and more; and whether a label or a formula comes first.
func TestLiftLimits(t *testing.T) {
	l := logic()
	p := parsed(t, "p")
	for depth, want := range map[int]api.Errno{96: api.OK, 97: api.ErrLarge, 100: api.ErrLarge} { // Frege has the depth of h and 4 more
		hyps := []natural.Formula{deep(depth)}
		if got, e := Lift(l, []Line{{Formula: hyps[0], From: []int{0}}}, hyps); e != want || (len(got) == 0) != (e != api.OK) {
			t.Errorf("the depth %d: %d, want %d", depth, e, want)
		}
	}
	large := []natural.Formula{deep(100)}
	short := logic()
	short.Frege = ""
	if _, e := Lift(short, []Line{{Formula: large[0], From: []int{0}}}, large); e != ErrFragment {
		t.Errorf("a label ahead of a formula: %d", e)
	}
	short = logic()
	short.Simp = ""
	if _, e := Lift(short, []Line{{Formula: large[0], From: []int{0}}}, large); e != api.ErrLarge {
		t.Errorf("a formula ahead of the next label: %d", e)
	}
	// Plain lines: n of them, and two more.
	for n, want := range map[int]api.Errno{1997: api.OK, 1998: api.OK, 1999: api.ErrLarge, 2000: api.ErrLarge} {
		given := lines(t, "1 : $> p p ; 0 : p")
		for len(given) < n {
			given = append(given, Line{Label: "m", Formula: p, From: []int{len(given) - 1, 0}})
		}
		got, e := Lift(l, given, formulas(t, "p ; $> p p ; h"))
		if e != want || e == api.OK && len(got) != n+2 {
			t.Errorf("%d lines: %d lines, %d, want %d", n, len(got), e, want)
		}
		short := logic()
		short.Simp = ""
		if _, e := Lift(short, given, formulas(t, "p ; $> p p ; h")); e != ErrFragment {
			t.Errorf("%d lines without Simp: %d", n, e)
		}
	}
	// Lines of H: each Mp has three more.
	for n, want := range map[int]api.Errno{664: api.OK, 665: api.ErrLarge} { // 5 + 3 + 3 n
		given := lines(t, "0 : $> h h ; 1 : h")
		for range n {
			given = append(given, Line{Label: "m", Formula: given[1].Formula, From: []int{len(given) - 1, 0}})
		}
		got, e := Lift(l, given, formulas(t, "$> h h ; h"))
		if e != want || e == api.OK && len(got) != 8+3*n {
			t.Errorf("%d steps: %d lines, %d, want %d", n, len(got), e, want)
		}
	}
}

// P27.1, P27.3: Trim by hand.
func TestTrim(t *testing.T) {
	for name, x := range map[string]struct {
		lines, want string
		e           api.Errno
	}{
		"one":                          {"0 : p", "0 : p", 0},
		"nothing to do":                {"0 : p ; 1 : $> p q ; m 0 1 : q", "0 : p ; 1 : $> p q ; m 0 1 : q", 0},
		"what is not needed":           {"s : $> p $> p p ; 0 : p ; 5 : r ; 1 : $> p q ; m 1 3 : q", "0 : p ; 1 : $> p q ; m 0 1 : q", 0},
		"a repetition":                 {"0 : p ; 1 : p ; m 0 1 : q", "0 : p ; m 0 0 : q", 0},
		"the last one is another":      {"0 : p ; 1 : q ; 2 : r ; x 1 2 : p", "0 : p", 0},
		"the first one counts":         {"x : p ; y 0 : q ; z 0 1 : p ; w 2 : r", "x : p ; w 0 : r", 0},
		"what only the second needed":  {"x : p ; y : q ; z 1 : p ; w 2 1 : r", "x : p ; y : q ; w 0 1 : r", 0},
		"what none needs any more":     {"x : p ; y : q ; z 1 : p ; w 2 : r", "x : p ; w 0 : r", 0},
		"numbers of hypotheses":        {"7 -3 : p ; x 0 0 0 : q", "7 -3 : p ; x 0 0 0 : q", 0},
		"names":                        {"s : k ; 0 : p ; g 1 x : q", "0 : p ; g 0 x : q", 0},
		"equal but for names of bound": {"0 : $A x P $( x $) ; 1 : $A y P $( y $) ; x 1 : p", "0 : $A x P $( x $) ; x 0 : p", 0},
		"nothing":                      {"", "", api.ErrSize},
		"a line itself":                {"x 0 : p", "", api.ErrRange},
		"a later line":                 {"x 1 : p ; 0 : q", "", api.ErrRange},
		"below 0":                      {"0 : q ; x -1 : p", "", api.ErrRange},
		"one that is not needed":       {"0 : q ; x 5 : p ; 0 : r", "", api.ErrRange},
	} {
		got, e := Trim(lines(t, x.lines))
		if e != x.e || !sameLines(got, lines(t, x.want)) {
			t.Errorf("%s: %s, %d, want %s, %d", name, written(t, got), e, x.want, x.e)
		}
	}
	// Any formulas, and any names and labels.
	odd := []natural.Formula{{}, {Kind: 9}, {Name: "p"}, {Terms: []natural.Term{{}}}, {Parts: []natural.Formula{{}}}, {Terms: []natural.Term{{Name: "a b"}}}, {Terms: []natural.Term{{Name: "a"}, {Name: "b"}}}, {Terms: []natural.Term{{Name: "a", Args: []natural.Term{{Name: "b"}}}}}, {Terms: []natural.Term{{Name: "a"}}, Parts: []natural.Formula{{Name: "b"}}}, {Kind: 1, Name: "1 0"}, {Kind: 11, Name: " 0"}, {Terms: []natural.Term{{Index: -1}}}, {Terms: []natural.Term{{Index: 1}}}}
	var l []Line
	all := Line{Label: "all", Formula: parsed(t, "last")}
	for n, f := range odd {
		l = append(l, Line{Label: "x", Formula: f}, Line{Label: "y", Formula: f, Name: "$"})
		all.From = append(all.From, 2*n+1)
	}
	got, e := Trim(append(l, all))
	if e != api.OK || len(got) != len(odd)+1 {
		t.Errorf("%d lines of %d, %d", len(got), len(odd)+1, e)
	}
	many := slices.Repeat(lines(t, "0 : p"), api.MaxSteps)
	if got, e := Trim(many); e != api.OK || len(got) != 1 {
		t.Errorf("2000 lines: %d, %d", len(got), e)
	}
	if got, e := Trim(append(many, Line{Label: "x", From: []int{-1}})); e != api.ErrSize || len(got) > 0 {
		t.Errorf("2001 lines: %d, %d", len(got), e)
	}
}

func itoa(n int) string { return strconv.Itoa(n) }
