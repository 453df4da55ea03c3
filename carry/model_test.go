package carry

import (
	"maps"
	"slices"
	"strconv"
	"strings"

	"apodixis/api"
	"apodixis/frame"
	"apodixis/grammar"
	"apodixis/graph"
	"apodixis/natural"
	"apodixis/syntax"
	"apodixis/verify"
)

// The forms of the chapter: the essential hypotheses, and behind them the formula; labels of syntax axioms are named by their fields.
const formTexts = `Mp: p ; Imp p q ; q
Gen: p ; All x p
Simp: Imp p Imp q p
Frege: Imp Imp p Imp q r Imp Imp p q Imp p r
Transp: Imp Imp Not p Not q Imp q p
Dist: Imp All x Imp p q Imp All x p All x q
Vacuous: Imp p All x p
Spec: Imp All x p p
Refl: Eq x x
Eucl: Imp Eq x y Imp Eq x z Eq y z`

// formOf returns the formulas of a field's form.
func formOf(field string) [][]string {
	var l [][]string
	for _, line := range strings.Split(formTexts, "\n") {
		if name, rest, _ := strings.Cut(line, ":"); name == field {
			for _, text := range strings.Split(rest, ";") {
				l = append(l, strings.Fields(text))
			}
		}
	}
	return l
}

// fieldOf returns where a field of a logic is.
func fieldOf(l *Logic, name string) *string {
	return map[string]*string{
		"Set": &l.Set, "Imp": &l.Imp, "Not": &l.Not, "And": &l.And, "Or": &l.Or, "False": &l.False, "All": &l.All, "Some": &l.Some, "Eq": &l.Eq,
		"Mp": &l.Mp, "Gen": &l.Gen, "Simp": &l.Simp, "Frege": &l.Frege, "Transp": &l.Transp, "Dist": &l.Dist, "Vacuous": &l.Vacuous, "Spec": &l.Spec, "Refl": &l.Refl, "Eucl": &l.Eucl,
	}[name]
}

var (
	syntaxFields = strings.Fields("Imp Not And Or False All Some Eq")
	ruleFields   = strings.Fields("Mp Gen Simp Frege Transp Dist Vacuous Spec Refl Eucl")
)

// argsIn returns the variables of a frame in the order of its text.
func argsIn(db api.Database, f api.Frame) []string {
	return slices.DeleteFunc(slices.Clone(f.Text[1:]), func(s string) bool { return !frame.IsVariable(db, s) })
}

func hasEssential(f api.Frame) bool {
	return slices.ContainsFunc(f.Hyps, func(h api.Hyp) bool { return !h.Floating })
}

// isSyntax reports whether an assertion is a syntax axiom.
func isSyntax(db api.Database, f api.Frame) bool {
	isOf := func(v string) bool { return frame.Type(db, v) == f.Text[0] }
	return !f.Theorem && !hasEssential(f) && slices.ContainsFunc(db.Variables, isOf)
}

// rightSyntax reports whether a label may be that of a syntax axiom of a field.
func rightSyntax(db api.Database, l Logic, field, label string) bool {
	n := frame.Find(db, label)
	if n < 0 {
		return false
	}
	f := db.Frames[n]
	want := map[string]string{"Imp": "ww", "And": "ww", "Or": "ww", "Not": "w", "All": "xw", "Some": "xw", "Eq": "xx"}[field]
	args := argsIn(db, f)
	if f.Theorem || hasEssential(f) || f.Text[0] != "wff" || len(args) != len(want) {
		return false
	}
	for i, v := range args {
		sort := map[byte]string{'w': "wff", 'x': l.Set}[want[i]]
		if frame.Type(db, v) != sort || slices.Contains(args[:i], v) {
			return false
		}
	}
	return true
}

// grown returns the tree of a form with variables for its letters.
func grown(db api.Database, l Logic, words *[]string, letters map[string]string) api.Tree {
	w := (*words)[0]
	*words = (*words)[1:]
	if v, ok := letters[w]; ok {
		return api.Tree{Label: labelOf(db, v)}
	}
	f := db.Frames[frame.Find(db, *fieldOf(&l, w))]
	t := api.Tree{Label: f.Label, Kids: make([]api.Tree, len(f.Hyps))}
	for _, v := range argsIn(db, f) {
		kid := grown(db, l, words, letters)
		t.Kids[slices.IndexFunc(f.Hyps, func(h api.Hyp) bool { return h.Text[1] == v })] = kid
	}
	return t
}

func labelOf(db api.Database, variable string) string {
	isIts := func(h api.Hyp) bool { return h.Floating && h.Text[1] == variable }
	l := slices.Concat(db.Frames[0].Hyps, db.Frames[0].Dummies)
	return l[slices.IndexFunc(l, isIts)].Label
}

// fitted returns the letters of a form with the variables of a frame for them, if the frame has the form.
func fitted(db api.Database, l Logic, field string, f api.Frame) (map[string]string, bool) {
	form := formOf(field)
	var given [][]string
	var variables []string
	for _, h := range f.Hyps {
		if h.Floating {
			variables = append(variables, h.Text[1])
		} else {
			given = append(given, h.Text)
		}
	}
	if len(given)+1 != len(form) {
		return nil, false
	}
	var letters []string
	for _, text := range form {
		for _, w := range text {
			if len(w) == 1 && !slices.Contains(letters, w) {
				letters = append(letters, w)
			} else if len(w) > 1 && *fieldOf(&l, w) == "" {
				return nil, false
			}
		}
	}
	orders := [][]int{{0, 1}, {1, 0}}[:len(form)/3+1]
	var result map[string]string
	var try func(chosen map[string]string) bool
	try = func(chosen map[string]string) bool {
		if len(chosen) < len(letters) {
			letter := letters[len(chosen)]
			sort := "wff"
			if letter >= "x" {
				sort = l.Set
			}
			for _, v := range variables {
				if frame.Type(db, v) != sort || slices.Contains(slices.Collect(maps.Values(chosen)), v) {
					continue
				}
				next := maps.Clone(chosen)
				next[letter] = v
				if try(next) {
					return true
				}
			}
			return false
		}
		for _, order := range orders {
			if fitsWith(db, l, f, form, given, order, chosen) {
				result = chosen
				return true
			}
		}
		return false
	}
	if !try(map[string]string{}) {
		return nil, false
	}
	var apart []api.Pair
	if field == "Vacuous" {
		apart = []api.Pair{{A: min(result["p"], result["x"]), B: max(result["p"], result["x"])}}
	}
	return result, slices.Equal(f.Apart, apart)
}

func fitsWith(db api.Database, l Logic, f api.Frame, form, given [][]string, order []int, letters map[string]string) bool {
	for n, text := range form {
		own := f.Text
		if n < len(given) {
			own = given[order[n]]
		}
		words := slices.Clone(text)
		t, e := syntax.Tree(db, own)
		if own[0] != "|-" || e != api.OK || !syntax.Equal(t, grown(db, l, &words, letters)) {
			return false
		}
	}
	return true
}

// modelRight reports whether a logic is right for a settled database.
func modelRight(db api.Database, l Logic) bool {
	if l.Imp == "" || l.Mp == "" || l.Set == "wff" {
		return false
	}
	used := map[string]bool{}
	for _, field := range syntaxFields {
		label := *fieldOf(&l, field)
		if label == "" {
			continue
		}
		if !rightSyntax(db, l, field, label) || used[label] {
			return false
		}
		used[label] = true
	}
	if l.Set == "" && l.All+l.Some+l.Eq != "" {
		return false
	}
	g, e := grammar.Of(db)
	isTerm := func(r grammar.Rule) bool { return !r.Variable && r.Sort == l.Set }
	if e != api.OK || l.All+l.Some != "" && slices.ContainsFunc(g.Rules, isTerm) {
		return false
	}
	for _, field := range ruleFields {
		label := *fieldOf(&l, field)
		if label == "" {
			continue
		}
		n := frame.Find(db, label)
		if n < 0 {
			return false
		}
		if _, ok := fitted(db, l, field, db.Frames[n]); !ok {
			return false
		}
	}
	return true
}

// modelGuess returns the logic that the steps of the chapter find.
func modelGuess(db api.Database) Logic {
	var l Logic
	g, e := grammar.Of(db)
	if e != api.OK {
		return l
	}
	for _, field := range strings.Fields("Mp Gen Refl Eucl Transp Simp Frege Dist Vacuous Spec") {
		l = modelStep(db, g, l, field)
	}
	return l
}

// modelStep tries all labels that a field's form may have, and all typecodes.
func modelStep(db api.Database, g grammar.Grammar, l Logic, field string) Logic {
	open := map[string]string{"Mp": "Imp", "Gen": "All", "Refl": "Eq", "Eucl": "Eq", "Transp": "Not"}[field]
	for _, f := range db.Frames {
		labels, sets := []string{""}, []string{l.Set}
		if open != "" && *fieldOf(&l, open) == "" {
			labels = nil
			for _, r := range g.Rules {
				labels = append(labels, r.Label)
			}
		} else {
			open = ""
		}
		if l.Set == "" && (field == "Gen" || field == "Refl" || field == "Eucl") {
			sets = slices.DeleteFunc(slices.Clone(g.Sorts), func(s string) bool { return s == "wff" })
		}
		for _, label := range labels {
			for _, set := range sets {
				m := l
				m.Set = set
				if open != "" {
					*fieldOf(&m, open) = label
					if !rightSyntax(db, m, open, label) {
						continue
					}
				}
				if _, ok := fitted(db, m, field, f); ok {
					*fieldOf(&m, field) = f.Label
					return m
				}
			}
		}
	}
	return l
}

// value is what a variable means: a formula or a term.
type value struct {
	f natural.Formula
	t natural.Term
}

// own returns what variables mean in a frame.
func own(db api.Database, l Logic, f api.Frame) map[string]value {
	m := map[string]value{}
	for _, v := range db.Variables {
		switch frame.Type(db, v) {
		case l.Set:
			m[labelOf(db, v)] = value{t: natural.Term{Name: v}}
		case "wff":
			atom := natural.Formula{Kind: natural.Atom, Name: v}
			for _, x := range db.Variables {
				if frame.Type(db, x) == l.Set && !slices.Contains(f.Wide, api.Pair{A: min(v, x), B: max(v, x)}) {
					atom.Terms = append(atom.Terms, natural.Term{Name: x})
				}
			}
			m[labelOf(db, v)] = value{f: atom}
		}
	}
	return m
}

// modelTree returns the translation of a tree, of any size; false, if it has none.
func modelTree(db api.Database, l Logic, t api.Tree, m map[string]value) (value, bool) {
	if v, ok := m[t.Label]; ok {
		return v, true
	}
	n := frame.Find(db, t.Label)
	if n < 0 || !isSyntax(db, db.Frames[n]) {
		return value{}, false
	}
	f := db.Frames[n]
	var args []value
	var sorts []string
	for _, v := range argsIn(db, f) {
		kid := t.Kids[slices.IndexFunc(f.Hyps, func(h api.Hyp) bool { return h.Text[1] == v })]
		x, ok := modelTree(db, l, kid, m)
		if !ok {
			return value{}, false
		}
		args, sorts = append(args, x), append(sorts, frame.Type(db, v))
	}
	for _, field := range syntaxFields {
		if *fieldOf(&l, field) == t.Label {
			return value{f: modelNode(field, args)}, true
		}
	}
	var terms []natural.Term
	for i, a := range args {
		if sorts[i] != l.Set {
			return value{}, false
		}
		terms = append(terms, a.t)
	}
	switch f.Text[0] {
	case "wff":
		return value{f: natural.Formula{Kind: natural.Atom, Name: t.Label, Terms: terms}}, true
	case l.Set:
		return value{t: natural.Term{Name: t.Label, Args: terms}}, true
	}
	return value{}, false
}

// modelNode returns the translation of a node by a field of the logic.
func modelNode(field string, args []value) natural.Formula {
	join := func(kind int, parts ...natural.Formula) natural.Formula {
		return natural.Formula{Kind: kind, Parts: parts}
	}
	switch field {
	case "Imp":
		return join(natural.Implies, args[0].f, args[1].f)
	case "And":
		return join(natural.And, args[0].f, args[1].f)
	case "Or":
		return join(natural.Or, args[0].f, args[1].f)
	case "Not":
		return join(natural.Implies, args[0].f, join(natural.False))
	case "All":
		return join(natural.All, abstracted(args[1].f, args[0].t.Name, 0))
	case "Some":
		return join(natural.Some, abstracted(args[1].f, args[0].t.Name, 0))
	case "Eq":
		return natural.Formula{Kind: natural.Equal, Terms: []natural.Term{args[0].t, args[1].t}}
	}
	return join(natural.False)
}

// abstracted returns a formula of any size with an index for a parameter.
func abstracted(f natural.Formula, name string, around int) natural.Formula {
	var term func(t natural.Term) natural.Term
	term = func(t natural.Term) natural.Term {
		if t.Name == name && len(t.Args) == 0 {
			return natural.Term{Index: around}
		}
		x := natural.Term{Name: t.Name, Index: t.Index}
		for _, a := range t.Args {
			x.Args = append(x.Args, term(a))
		}
		return x
	}
	g := natural.Formula{Kind: f.Kind, Name: f.Name}
	for _, t := range f.Terms {
		g.Terms = append(g.Terms, term(t))
	}
	inside := around
	if f.Kind == natural.All || f.Kind == natural.Some {
		inside++
	}
	for _, p := range f.Parts {
		g.Parts = append(g.Parts, abstracted(p, name, inside))
	}
	return g
}

// fits reports whether a value is well-formed.
func (v value) fits() bool {
	if v.f.Kind > 0 {
		return natural.Well(v.f) == api.OK
	}
	nodes, depth := 0, 0
	var walk func(t natural.Term, n int)
	walk = func(t natural.Term, n int) {
		nodes, depth = nodes+1, max(depth, n)
		for _, a := range t.Args {
			walk(a, n+1)
		}
	}
	walk(v.t, 1)
	return nodes <= api.MaxNodes && depth <= api.MaxDepth
}

// modelFormula returns the translation of a formula.
func modelFormula(db api.Database, l Logic, text []string, m map[string]value) (natural.Formula, api.Errno) {
	t, e := syntax.Tree(db, text)
	if e != api.OK {
		return natural.Formula{}, e
	}
	v, ok := modelTree(db, l, t, m)
	if !ok || text[0] != "wff" && text[0] != "|-" {
		return natural.Formula{}, ErrSyntax
	}
	if !v.fits() {
		return natural.Formula{}, api.ErrLarge
	}
	return v.f, api.OK
}

// modelClosed returns a closed formula, and the parameters over which it is closed.
func modelClosed(db api.Database, f natural.Formula) (natural.Formula, []string, api.Errno) {
	names := slices.DeleteFunc(natural.Free(f), func(s string) bool { return frame.Find(db, s) >= 0 })
	for _, x := range slices.Backward(names) {
		f = natural.Formula{Kind: natural.All, Parts: []natural.Formula{abstracted(f, x, 0)}}
	}
	if natural.Well(f) != api.OK {
		return natural.Formula{}, nil, api.ErrLarge
	}
	return f, names, api.OK
}

// modelCarrier carries a proof over, step by step as the chapter says, and leaves with the first error by a panic.
type modelCarrier struct {
	db     api.Database
	l      Logic
	c      Carried
	closed [][]string
	nodes  int
	dummy  int
}

// modelProof is what is put in: the frame, its graph, what its variables mean, and how its essential hypotheses are derived.
type modelProof struct {
	f      api.Frame
	p      api.Proof
	m      map[string]value
	derive map[string]func() natural.Derivation
}

func (c *modelCarrier) must(e api.Errno) {
	if e != api.OK {
		panic(e)
	}
}

func (c *modelCarrier) made(d natural.Derivation) natural.Derivation {
	c.nodes++
	if c.nodes > 8000 {
		panic(api.ErrLarge)
	}
	return d
}

// proofModel returns what Proof returns for a right logic and the index of a frame.
func proofModel(db api.Database, l Logic, i int) (result Carried, e api.Errno) {
	defer func() {
		if code, ok := recover().(api.Errno); ok {
			result, e = Carried{}, code
		}
	}()
	f := db.Frames[i]
	if !f.Theorem {
		return Carried{}, api.ErrArg
	}
	c := &modelCarrier{db: db, l: l}
	v, _ := verify.Theorem(db, i)
	c.must(v.Code)
	m := own(db, l, f)
	top := modelProof{f: f, m: m, derive: map[string]func() natural.Derivation{}}
	for _, h := range f.Hyps {
		if h.Floating {
			continue
		}
		g, e := modelFormula(db, l, h.Text, m)
		c.must(e)
		g, names, e := modelClosed(db, g)
		c.must(e)
		n := len(c.c.Assumptions)
		c.c.Assumptions = append(c.c.Assumptions, g)
		top.derive[h.Label] = func() natural.Derivation {
			return c.instance(natural.Derivation{Rule: natural.Assume, Index: len(c.c.Assumptions) - 1 - n}, names)
		}
	}
	c.c.Conclusion, e = modelFormula(db, l, f.Text, m)
	c.must(e)
	top.p, _ = graph.Of(db, i)
	c.c.Derivation = c.step(top, len(top.p.Steps)-1)
	if _, depth := natural.Size(c.c.Derivation); depth > 1000 {
		return Carried{}, api.ErrLarge
	}
	g, _, e := natural.Check(c.c.Theory, c.c.Assumptions, c.c.Derivation)
	if e != api.OK && e != api.ErrLarge || e == api.OK && !natural.Same(g, c.c.Conclusion) {
		e = ErrSyntax
	}
	c.must(e)
	return c.c, api.OK
}

// instance returns the derivation of a formula from that of the closed one.
func (c *modelCarrier) instance(d natural.Derivation, names []string) natural.Derivation {
	d = c.made(d)
	for _, x := range names {
		d = c.made(natural.Derivation{Rule: natural.AllOut, Term: natural.Term{Name: x}, Kids: []natural.Derivation{d}})
	}
	return d
}

// tree returns the tree of a step, or nothing, if it has more than api.MaxNodes nodes.
func treeOf(p api.Proof, step int) (api.Tree, bool) {
	count := 0
	var grow func(s int) api.Tree
	grow = func(s int) api.Tree {
		count++
		t := api.Tree{Label: p.Steps[s].Label}
		for _, a := range p.Steps[s].Args {
			if count > api.MaxNodes {
				break
			}
			t.Kids = append(t.Kids, grow(a))
		}
		return t
	}
	t := grow(step)
	return t, count <= api.MaxNodes
}

// step returns the derivation of a step.
func (c *modelCarrier) step(in modelProof, s int) natural.Derivation {
	x := in.p.Steps[s]
	if derive, ok := in.derive[x.Label]; ok {
		return derive()
	}
	n := frame.Find(c.db, x.Label)
	if n < 0 || c.db.Frames[n].Text[0] != "|-" {
		panic(ErrSyntax)
	}
	f := c.db.Frames[n]
	m := map[string]value{}
	inner := modelProof{f: f, m: m, derive: map[string]func() natural.Derivation{}}
	var premises []func() natural.Derivation
	for k, h := range f.Hyps {
		if !h.Floating {
			derive := func() natural.Derivation { return c.step(in, x.Args[k]) }
			inner.derive[h.Label], premises = derive, append(premises, derive)
			continue
		}
		t, ok := treeOf(in.p, x.Args[k])
		if !ok {
			panic(api.ErrLarge)
		}
		v, ok := modelTree(c.db, c.l, t, in.m)
		if !ok {
			panic(ErrSyntax)
		}
		if !v.fits() {
			panic(api.ErrLarge)
		}
		m[h.Label] = v
	}
	for _, field := range ruleFields {
		if *fieldOf(&c.l, field) == x.Label {
			return c.special(field, f, m, premises)
		}
	}
	if !f.Theorem {
		return c.axiom(f, m)
	}
	v, _ := verify.Theorem(c.db, n)
	c.must(v.Code)
	for _, h := range f.Dummies {
		switch h.Text[0] {
		case "wff":
			m[h.Label] = value{f: natural.Formula{Kind: natural.False}}
		case c.l.Set:
			for {
				c.dummy++
				name := "&" + strconv.Itoa(c.dummy)
				if !slices.Contains(c.db.Constants, name) && !slices.Contains(c.db.Variables, name) {
					m[h.Label] = value{t: natural.Term{Name: name}}
					break
				}
			}
		}
	}
	inner.p, _ = graph.Of(c.db, n)
	return c.step(inner, len(inner.p.Steps)-1)
}

// axiom returns the derivation of a step of an axiom that is none of the logic.
func (c *modelCarrier) axiom(f api.Frame, m map[string]value) natural.Derivation {
	if hasEssential(f) {
		panic(ErrRule)
	}
	g, e := modelFormula(c.db, c.l, f.Text, m)
	c.must(e)
	g, names, e := modelClosed(c.db, g)
	c.must(e)
	n := slices.IndexFunc(c.c.Theory, func(h natural.Formula) bool { return natural.Same(g, h) })
	if n < 0 {
		n = len(c.c.Theory)
		c.c.Theory, c.c.Labels = append(c.c.Theory, g), append(c.c.Labels, f.Label)
	}
	return c.instance(natural.Derivation{Rule: natural.Axiom, Index: n}, names)
}

// special returns the derivation of a step of a rule or an axiom of the logic.
func (c *modelCarrier) special(field string, f api.Frame, m map[string]value, premises []func() natural.Derivation) natural.Derivation {
	letters, _ := fitted(c.db, c.l, field, f)
	of := map[string]value{}
	for letter, v := range letters {
		of[letter] = m[labelOf(c.db, v)]
	}
	switch field {
	case "Mp":
		c.made(natural.Derivation{})
		first := premises[0]()
		l := []natural.Derivation{premises[1](), first}
		if t, _ := syntax.Tree(c.db, essentials(f)[0]); len(t.Kids) > 0 {
			slices.Reverse(l)
		}
		return natural.Derivation{Rule: natural.ImpliesOut, Kids: l}
	case "Gen":
		c.made(natural.Derivation{})
		return natural.Derivation{Rule: natural.AllIn, Name: of["x"].t.Name, Kids: []natural.Derivation{premises[0]()}}
	}
	d, e := modelAxiom(c.db, c.l, field, f, m, of)
	c.must(e)
	nodes, _ := natural.Size(d)
	for range nodes {
		c.made(d)
	}
	return d
}

func essentials(f api.Frame) [][]string {
	var l [][]string
	for _, h := range f.Hyps {
		if !h.Floating {
			l = append(l, h.Text)
		}
	}
	return l
}

// The derivations of the chapter's table, as texts: i is ImpliesIn of the formula behind it, . is ImpliesOut, g AllIn, a AllOut, c Classic, r Reflexive, e Replace, a digit Assume; formulas are written with > ~ A = and letters.
var derivationTexts = map[string]string{
	"Simp": "i p i q 1", "Frege": "i >p>qr i >pq i p . . 2 0 . 1 0", "Transp": "i >~p~q i q c p . . 2 0 1",
	"Dist": "i A>pq i Ap g . a 1 a 0", "Vacuous": "i p g 0", "Spec": "i Ap a 0", "Refl": "r", "Eucl": "i =xy i =xz e 1 0",
}

// modelAxiom returns the derivation of an axiom.
func modelAxiom(db api.Database, l Logic, field string, f api.Frame, m, of map[string]value) (natural.Derivation, api.Errno) {
	if field == "Vacuous" && slices.Contains(natural.Free(of["p"].f), of["x"].t.Name) {
		return natural.Derivation{}, api.ErrApart
	}
	if _, e := modelFormula(db, l, f.Text, m); e != api.OK {
		return natural.Derivation{}, e
	}
	words := strings.Fields(derivationTexts[field])
	next := func() string { w := words[0]; words = words[1:]; return w }
	formula := func() natural.Formula {
		text := next()
		var read func() natural.Formula
		read = func() natural.Formula {
			sign := text[:1]
			text = text[1:]
			switch sign {
			case ">":
				first := read()
				return modelNode("Imp", []value{{f: first}, {f: read()}})
			case "~":
				return modelNode("Not", []value{{f: read()}})
			case "A":
				return modelNode("All", []value{of["x"], {f: read()}})
			case "=":
				x, y := text[:1], text[1:2]
				text = text[2:]
				return modelNode("Eq", []value{of[x], of[y]})
			}
			return of[sign].f
		}
		return read()
	}
	var read func() natural.Derivation
	read = func() natural.Derivation {
		var d natural.Derivation
		kids := 1
		switch w := next(); w {
		case "i":
			d = natural.Derivation{Rule: natural.ImpliesIn, Formula: formula()}
		case "c":
			d = natural.Derivation{Rule: natural.Classic, Formula: formula()}
		case ".":
			d, kids = natural.Derivation{Rule: natural.ImpliesOut}, 2
		case "g":
			d = natural.Derivation{Rule: natural.AllIn, Name: of["x"].t.Name}
		case "a":
			d = natural.Derivation{Rule: natural.AllOut, Term: of["x"].t}
		case "r":
			d, kids = natural.Derivation{Rule: natural.Reflexive, Term: of["x"].t}, 0
		case "e":
			d, kids = natural.Derivation{Rule: natural.Replace, Formula: natural.Formula{Kind: natural.Equal, Terms: []natural.Term{{}, of["z"].t}}}, 2
		default:
			n, _ := strconv.Atoi(w)
			return natural.Derivation{Rule: natural.Assume, Index: n}
		}
		for range kids {
			d.Kids = append(d.Kids, read())
		}
		return d
	}
	return read(), api.OK
}
