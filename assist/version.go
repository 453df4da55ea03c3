package assist

import (
	"iter"
	"slices"

	"apodixis/api"
	"apodixis/book"
	"apodixis/grammar"
	"apodixis/unify"
)

// maxSteps is how many steps a proof with holes may have.
const maxSteps = 1000

// reused is the label of a step that another one proves; no assertion has it.
const reused = "="

// held is a step, and the work variables of its tree.
type held struct {
	Step
	works []string
}

func (s held) isOpen() bool { return s.Label == "" }

// version is a proof with holes; its steps, their trees and their Args are shared by versions, and never written.
type version struct {
	steps []held
	apart []api.Pair
	next  int // the number of the next work variable
}

// copied returns a version whose steps may be replaced.
func (v version) copied() version {
	v.steps = slices.Clone(v.steps)
	return v
}

// open adds an open step, and returns its number.
func (v *version) open(t api.Tree) int {
	v.steps = append(v.steps, held{Step{Tree: t}, unify.Works(t)})
	return len(v.steps) - 1
}

// prove says what an open step is proved by.
func (v *version) prove(goal int, label string, args ...int) {
	v.steps[goal].Label, v.steps[goal].Args = label, args
}

// hasWork reports whether a label is that of a work variable of a step.
func (v *version) hasWork(label string) bool {
	return slices.ContainsFunc(v.steps, func(s held) bool { return slices.Contains(s.works, label) })
}

// isGoal reports whether a number is that of an open step.
func (v *version) isGoal(n int) bool { return v.hasStep(n) && v.steps[n].isOpen() }

func (v *version) hasStep(n int) bool { return n >= 0 && n < len(v.steps) }

// needed yields the steps that a step needs, and itself, each once, behind those that it needs.
func (v *version) needed(last int) iter.Seq2[int, held] {
	return func(yield func(int, held) bool) {
		visited := make([]bool, len(v.steps))
		var visit func(n int) bool
		visit = func(n int) bool {
			if visited[n] {
				return true
			}
			visited[n] = true
			for _, a := range v.steps[n].Args {
				if !visit(a) {
					return false
				}
			}
			return yield(n, v.steps[n])
		}
		visit(last)
	}
}

// needs reports whether a step is another one, or needs it.
func (v *version) needs(n, other int) bool {
	for m := range v.needed(n) {
		if m == other {
			return true
		}
	}
	return false
}

// failure is what leaves a change with an error.
type failure struct{ code api.Errno }

// must leaves with an error.
func must(e api.Errno) {
	if e != api.OK {
		panic(failure{e})
	}
}

// need leaves with an error, unless a condition holds.
func need(condition bool, e api.Errno) {
	if !condition {
		must(e)
	}
}

// try does a change on a copy of the present version, and returns it, or the error with which the change left.
func (a *Assistant) try(do func(v *version)) (v version, e api.Errno) {
	defer func() {
		switch x := recover().(type) {
		case nil:
		case failure:
			e = x.code
		default:
			e = api.ErrState // whatever else stops a change, it is not done
		}
	}()
	v = a.versions.past.item.copied()
	do(&v)
	return v, api.OK
}

// change does a change, and makes a version of what it leads to.
func (a *Assistant) change(do func(v *version)) api.Errno {
	if a == nil {
		return api.ErrArg
	}
	v, e := a.try(do)
	if e == api.OK {
		a.versions.add(v)
	}
	return e
}

// apply proves an open step by an assertion.
func (a *Assistant) apply(v *version, goal int, label string) {
	need(v.isGoal(goal), ErrGoal)
	f, ok := a.ahead[label]
	need(ok, api.ErrNone)
	need(isAsserted(f), api.ErrType)
	hyps, formula, works := a.fresh(f, v.next)
	need(len(v.steps)+len(hyps) <= maxSteps, api.ErrFull)
	l := a.unified(v.steps[goal].Tree, formula)
	var args []int
	for _, h := range hyps {
		args = append(args, v.open(h))
	}
	v.prove(goal, label, args...)
	v.next += len(works)
	v.apart = slices.Concat(v.apart, a.apart(l, a.pairsOf(f, works)))
	a.substitute(v, l)
}

// fresh returns what unify.Fresh does, but formulas are parsed only once.
func (a *Assistant) fresh(f api.Frame, from int) (hyps []api.Tree, formula api.Tree, works []unify.Sub) {
	for _, h := range f.Hyps {
		if h.Floating {
			label, e := unify.Work(h.Text[0], from+len(works))
			must(e)
			works = append(works, unify.Sub{Label: h.Label, Tree: api.Tree{Label: label}})
		}
	}
	read := func(text []string) api.Tree {
		t, e := a.book.Tree(text)
		must(e)
		t, e = unify.Apply(t, works)
		must(e)
		return t
	}
	for _, h := range book.Premises(f) {
		hyps = append(hyps, read(h.Text))
	}
	return hyps, read(f.Text), works
}

// pairsOf returns the disjoint pairs of an assertion as work variables.
func (a *Assistant) pairsOf(f api.Frame, works []unify.Sub) []api.Pair {
	labels := map[string]string{} // those of the work variables
	for _, w := range works {
		labels[w.Label] = w.Tree.Label
	}
	var l []api.Pair
	for _, p := range f.Apart {
		l = append(l, api.Pair{A: labels[a.book.LabelOf(p.A)], B: labels[a.book.LabelOf(p.B)]})
	}
	return l
}

// unified returns the substitution that makes two trees equal.
func (a *Assistant) unified(x, y api.Tree) []unify.Sub {
	need(!differ(x, y), ErrUnify)
	l, e := unify.Unify(a.small, []api.Tree{x}, []api.Tree{y})
	if e == unify.ErrClash || e == unify.ErrOccurs {
		e = ErrUnify
	}
	must(e)
	return l
}

// differ reports whether two trees of one sort have different labels where no work variable is. Most assertions differ from a goal, and unify.Unify takes far longer to tell it.
func differ(x, y api.Tree) bool {
	for _, label := range [2]string{x.Label, y.Label} {
		if _, _, ok := unify.IsWork(label); ok {
			return false
		}
	}
	if x.Label != y.Label {
		return true
	}
	for i, k := range x.Kids {
		if differ(k, y.Kids[i]) {
			return true
		}
	}
	return false
}

// apart returns what pairs require under a substitution.
func (a *Assistant) apart(l []unify.Sub, pairs []api.Pair) []api.Pair {
	if len(pairs) == 0 {
		return nil
	}
	required, e := unify.Apart(a.small, l, pairs)
	must(e)
	return required
}

// substitute replaces work variables in all steps, and leaves, if the disjointness does not allow it.
func (a *Assistant) substitute(v *version, l []unify.Sub) {
	changed := map[string]bool{}
	for _, x := range l {
		changed[x.Label] = true
	}
	isChanged := func(label string) bool { return changed[label] }
	for n, s := range v.steps {
		if !slices.ContainsFunc(s.works, isChanged) {
			continue
		}
		t, e := unify.Apply(s.Tree, l)
		must(e)
		v.steps[n].Tree, v.steps[n].works = t, unify.Works(t)
	}
	v.apart = a.apart(l, v.apart)
	for _, p := range v.apart {
		isFixed := a.book.IsVariable(p.A) && a.book.IsVariable(p.B)
		need(!isFixed || a.permitted[p], api.ErrApart)
	}
}

// assume proves an open step by a premise of the theorem.
func (a *Assistant) assume(v *version, goal int, label string) {
	need(v.isGoal(goal), ErrGoal)
	t, ok := a.premises[label]
	need(ok, api.ErrNone)
	l := a.unified(v.steps[goal].Tree, t)
	v.prove(goal, label)
	a.substitute(v, l)
}

// reuse proves an open step by another one.
func (a *Assistant) reuse(v *version, goal, step int) {
	need(v.isGoal(goal), ErrGoal)
	need(v.hasStep(step), api.ErrNone)
	need(!v.needs(step, goal), api.ErrOrder)
	l := a.unified(v.steps[goal].Tree, v.steps[step].Tree)
	v.prove(goal, reused, step)
	a.substitute(v, l)
}

// have adds a formula as an open step, and returns its number.
func (a *Assistant) have(v *version, t api.Tree) int {
	a.check(v, t, grammar.Formula)
	need(len(v.steps) < maxSteps, api.ErrFull)
	return v.open(book.Copy(t))
}

// set gives a work variable a tree.
func (a *Assistant) set(v *version, label string, t api.Tree) {
	need(v.hasWork(label), api.ErrNone)
	sort, _, _ := unify.IsWork(label)
	a.check(v, t, sort)
	need(!slices.Contains(unify.Works(t), label), ErrUnify)
	a.substitute(v, []unify.Sub{{Label: label, Tree: t}})
}

// check leaves, if a tree is none of a sort with work variables of steps.
func (a *Assistant) check(v *version, t api.Tree, sort string) {
	found, e := unify.Sort(a.small, t)
	must(e)
	need(found == sort, api.ErrType)
	for _, label := range unify.Works(t) {
		need(v.hasWork(label), api.ErrScope)
	}
}
