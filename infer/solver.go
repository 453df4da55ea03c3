package infer

import (
	"errors"
	"iter"

	"apodixis/api"
	"apodixis/book"
	"apodixis/frame"
	"apodixis/syntax"
	"apodixis/unify"
)

// maxLines is how many lines a theorem may have.
const maxLines = 100

// row is a line whose formulas were read.
type row struct {
	Line
	frame api.Frame // of an assertion
	hyps  []api.Tree
	tree  api.Tree
	works []unify.Sub // what its floating hypotheses become
	text  api.Tree    // that of Text, if it is told
}

// solver finds what the lines of a theorem leave open.
type solver struct {
	*book.Book
	theorem api.Frame
	small   api.Database // the assertions of the lines
	rows    []row
	goal    api.Tree
	values  map[string]api.Tree // of the work variables

	permitted map[api.Pair]bool // the theorem's disjoint pairs
}

// solve returns a solver that has found all values.
func solve(db api.Database, i int, l []Line) (*solver, api.Errno) {
	b, e := open(db, i)
	if e != api.OK {
		return nil, e
	}
	if e := check(db, i, l); e != api.OK {
		return nil, e
	}
	x := newSolver(b, db.Frames[i])
	if e := x.read(l); e != api.OK {
		return nil, e
	}
	var left, right []api.Tree
	for a, b := range x.equations() {
		left, right = append(left, a), append(right, b)
	}
	subs, e := unify.Unify(x.small, left, right)
	if e != api.OK {
		return nil, e
	}
	for _, s := range subs {
		x.values[s.Label] = s.Tree
	}
	if x.isOpen() {
		return nil, ErrOpen
	}
	return x, api.OK
}

func newSolver(b *book.Book, theorem api.Frame) *solver {
	return &solver{Book: b, theorem: theorem, values: map[string]api.Tree{}, permitted: b.Permitted(theorem)}
}

// check returns the error of the lines of a theorem.
func check(db api.Database, i int, l []Line) (e api.Errno) {
	if len(l) == 0 || len(l) > maxLines {
		return api.ErrSize
	}
	counts := map[string]int{} // of the premises, by the labels that lines may have
	for _, h := range book.Premises(db.Frames[i]) {
		if book.IsAsserted(h.Text) {
			counts[h.Label] = 0
		}
	}
	for _, f := range db.Frames[:i] {
		if book.IsAsserted(f.Text) && !book.HasOther(f) {
			counts[f.Label] = len(book.Premises(f))
		}
	}
checking:
	for n, x := range l {
		count, ok := counts[x.Label]
		switch {
		case !ok:
			e = api.ErrLabel
			break checking
		case len(x.Args) != count:
			e = api.ErrStack
			break checking
		}
		for _, a := range x.Args {
			if a < 0 || a >= n {
				e = api.ErrRange
				break checking
			}
		}
	}
	return e
}

// read reads the formulas of lines, and that of the theorem.
func (x *solver) read(l []Line) api.Errno {
	labels := map[string]bool{}
	for _, line := range l {
		labels[line.Label] = true
	}
	x.small = x.Part(labels)
	next := 0
	from := func(count int) int {
		next += count
		return next - count
	}
	for _, line := range l {
		r := row{Line: line}
		if e := x.readRow(&r, from); e != api.OK {
			return e
		}
		if len(line.Text) > 0 {
			t, e := x.Tree(line.Text)
			if e != api.OK {
				return e
			}
			r.text = t
		}
		x.rows = append(x.rows, r)
	}
	var e api.Errno
	x.goal, e = x.Tree(x.theorem.Text)
	return e
}

// readRow reads the assertion or the hypothesis of a line; from gives the numbers of work variables.
func (x *solver) readRow(r *row, from func(count int) int) (e api.Errno) {
	number := frame.Find(x.small, r.Label)
	if number < 0 {
		h, _ := frame.Hyp(x.theorem, r.Label)
		r.tree, e = x.Tree(h.Text)
		return e
	}
	r.frame = x.small.Frames[number]
	count := len(r.frame.Hyps) - len(book.Premises(r.frame))
	r.hyps, r.tree, r.works, e = unify.Fresh(x.small, number, from(count))
	return e
}

// equations yields the trees that are to be equal.
func (x *solver) equations() iter.Seq2[api.Tree, api.Tree] {
	return func(yield func(api.Tree, api.Tree) bool) {
		for _, r := range x.rows {
			for k, h := range r.hyps {
				if !yield(h, x.rows[r.Args[k]].tree) {
					return
				}
			}
			if len(r.Text) > 0 && !yield(r.tree, r.text) {
				return
			}
		}
		yield(x.rows[len(x.rows)-1].tree, x.goal)
	}
}

// isOpen reports whether a work variable is left in what a floating hypothesis became. Trees of lines have no others.
func (x *solver) isOpen() bool {
	for _, r := range x.rows {
		for _, w := range r.works {
			value, ok := x.values[w.Tree.Label]
			if !ok || len(unify.Works(value)) > 0 {
				return true
			}
		}
	}
	return false
}

// solved returns a tree in which work variables have their values. It may be larger than those that lower layers accept.
func (x *solver) solved(t api.Tree) api.Tree {
	value, ok := x.values[t.Label]
	if ok {
		t = value
	}
	result := api.Tree{Label: t.Label}
	for _, k := range t.Kids {
		result.Kids = append(result.Kids, x.solved(k))
	}
	return result
}

// isLong reports whether the formula of a tree has too many symbols.
func (x *solver) isLong(t api.Tree) bool {
	count := 1 // the typecode
	for range x.Symbols(t) {
		count++
		if count > api.MaxFormula {
			return true
		}
	}
	return false
}

// apart returns the error of what the disjointness of a line's assertion requires.
func (x *solver) apart(r row) api.Errno {
	var pairs []api.Pair
	for _, p := range r.frame.Apart {
		pairs = append(pairs, api.Pair{A: x.LabelOf(p.A), B: x.LabelOf(p.B)})
	}
	required, e := unify.Apart(x.small, x.substitution(r), pairs)
	if isCode(e, api.ErrApart) {
		return api.ErrApart
	}
	for _, p := range required {
		if !x.permitted[p] {
			return api.ErrApart
		}
	}
	return api.OK
}

// isCode reports whether an error of another layer is one with a certain code.
func isCode(err error, code api.Errno) bool {
	var e api.Errno
	return errors.As(err, &e) && e == code
}

// substitution returns what the floating hypotheses of a line become.
func (x *solver) substitution(r row) []unify.Sub {
	var l []unify.Sub
	for _, w := range r.works {
		l = append(l, unify.Sub{Label: w.Label, Tree: x.values[w.Tree.Label]})
	}
	return l
}

// proof returns the proof of the lines.
func (x *solver) proof() (api.Proof, api.Errno) {
	s := book.NewSteps()
	var place []int // of the lines
	for _, r := range x.rows {
		var args []int
		for _, w := range x.substitution(r) {
			n := build(s, w.Tree)
			// Only a large tree can have too many steps; it has no proof, even if the last line does not need it.
			if nodes, _ := syntax.Size(w.Tree); nodes > api.MaxSteps {
				if _, e := ended(s, n); e != api.OK {
					return api.Proof{}, e
				}
			}
			args = append(args, n)
		}
		for _, a := range r.Args { // the premises stand behind the floating hypotheses, as the database is settled
			args = append(args, place[a])
		}
		place = append(place, s.Add(r.Label, args))
	}
	return ended(s, place[len(place)-1])
}
