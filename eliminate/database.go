package eliminate

import (
	"cmp"
	"iter"
	"slices"
	"strings"

	"apodixis/api"
	"apodixis/book"
	"apodixis/define"
	"apodixis/frame"
	"apodixis/graph"
)

// rewriter eliminates a definition without dummies from assertions.
type rewriter struct {
	*book.Book
	definition define.Definition
	without    func(api.Tree) api.Tree
	number     int                 // that of the definition
	axiom      int                 // that of the definiendum's axiom
	reflexive  string              // the label of the equality of a variable with itself
	numbers    map[string]int      // those of the assertions, by their labels
	order      map[string]int      // the places of the floating hypotheses, by their labels
	texts      map[string][]string // the formulas that were rewritten
	frames     map[int]rewritten
}

// rewritten is an assertion without the definiendum and without its proof, and which of its hypotheses are still mandatory.
type rewritten struct {
	frame api.Frame
	kept  []bool
}

// newRewriter leaves with the errors that concern the definition alone.
func newRewriter(db api.Database, r define.Rules, i int) *rewriter {
	must(define.Check(db, r, i))
	d := partsOf(db, r, i)
	if len(d.Dummies) > 0 {
		must(ErrDummy)
	}
	for n := range book.Nodes(d.Right) {
		if k := frame.Find(db, n.Label); k >= 0 && len(db.Frames[k].Apart) > 0 {
			must(api.ErrApart)
		}
	}
	x := &rewriter{Book: opened(db), definition: d, number: i, axiom: frame.Find(db, d.Label)}
	t, e := x.Tree(db.Frames[i].Text)
	must(e)
	reflexive := slices.IndexFunc(db.Frames[:i], func(f api.Frame) bool { return isReflexive(x.Book, f, t.Label) })
	if reflexive < 0 {
		must(ErrReflect)
	}
	x.reflexive = db.Frames[reflexive].Label
	x.without = newRemover(x.Book, d).without
	x.index()
	return x
}

// index finds the places of assertions and floating hypotheses.
func (x *rewriter) index() {
	x.numbers, x.order = map[string]int{}, map[string]int{}
	x.texts, x.frames = map[string][]string{}, map[int]rewritten{}
	for k, f := range x.Database.Frames {
		x.numbers[f.Label] = k
	}
	floats, e := frame.Floats(x.Database)
	must(e)
	for k, h := range floats {
		x.order[h.Label] = k
	}
}

// database returns the database without the definition and the definiendum's axiom.
func (x *rewriter) database() api.Database {
	db := api.Database{Constants: slices.Clone(x.Database.Constants), Variables: slices.Clone(x.Database.Variables)}
	for k, f := range x.Database.Frames {
		if k == x.number || k == x.axiom {
			continue
		}
		var t theorem
		if f.Theorem {
			t = x.theorem(k)
		}
		g := x.frame(k).frame
		if f.Theorem {
			var e api.Errno
			g.Proof, e = graph.Labels(t.part, t.number, x.proof(t))
			must(e)
		}
		db.Frames = append(db.Frames, g)
	}
	return db
}

// text returns the elimination of a formula, which may have so many symbols.
func (x *rewriter) text(formula []string, most int) []string {
	key := strings.Join(formula, " ")
	text, ok := x.texts[key]
	if !ok {
		t, e := x.Tree(formula)
		must(e)
		text = []string{formula[0]}
		for s := range x.Symbols(x.without(t)) {
			text = append(text, s)
			if len(text) > api.MaxFormula { // more than any formula may have
				must(api.ErrLarge)
			}
		}
		x.texts[key] = text
	}
	if len(text) > most {
		must(api.ErrLarge)
	}
	return text
}

// frame returns the assertion with a number without the definiendum.
func (x *rewriter) frame(number int) rewritten {
	r, ok := x.frames[number]
	if ok {
		return r
	}
	f := x.Database.Frames[number]
	mandatory := map[string]bool{}
	for _, v := range frame.Mandatory(x.Database, x.formulas(f)) {
		mandatory[v] = true
	}
	r.frame = api.Frame{Label: f.Label, Theorem: f.Theorem, Wide: slices.Clone(f.Wide)}
	r.frame.Text = slices.Clone(x.text(f.Text, api.MaxSymbols))
	for h, isKept := range x.hyps(f, mandatory) {
		if isKept {
			r.frame.Hyps = append(r.frame.Hyps, h)
		} else {
			r.frame.Dummies = append(r.frame.Dummies, h)
		}
		if len(r.kept) < len(f.Hyps) {
			r.kept = append(r.kept, isKept)
		}
	}
	slices.SortFunc(r.frame.Dummies, func(a, b api.Hyp) int { return cmp.Compare(x.order[a.Label], x.order[b.Label]) })
	for _, p := range f.Apart {
		if mandatory[p.A] && mandatory[p.B] {
			r.frame.Apart = append(r.frame.Apart, p)
		}
	}
	x.frames[number] = r
	return r
}

// formulas returns those of an assertion, its own one last, without the definiendum. All of them are parsed ahead of the first elimination, as the errors of these come later.
func (x *rewriter) formulas(f api.Frame) [][]string {
	var texts [][]string
	for _, h := range f.Hyps {
		if isEssential(h) {
			texts = append(texts, h.Text)
		}
	}
	texts = append(texts, f.Text)
	for _, text := range texts {
		_, e := x.Tree(text)
		must(e)
	}
	for k, text := range texts {
		texts[k] = x.text(text, api.MaxSymbols)
	}
	return texts
}

// hyps yields the hypotheses of an assertion without the definiendum, and whether each one is still mandatory.
func (x *rewriter) hyps(f api.Frame, mandatory map[string]bool) iter.Seq2[api.Hyp, bool] {
	return func(yield func(api.Hyp, bool) bool) {
		for _, h := range slices.Concat(f.Hyps, f.Dummies) {
			isKept := true
			if h.Floating {
				h.Text = slices.Clone(h.Text)
				isKept = mandatory[h.Text[1]]
			} else {
				h.Text = slices.Clone(x.text(h.Text, api.MaxSymbols))
			}
			if !yield(h, isKept) {
				return
			}
		}
	}
}
