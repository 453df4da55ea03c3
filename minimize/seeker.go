package minimize

import (
	"iter"
	"math/bits"
	"slices"

	"apodixis/api"
	"apodixis/subst"
)

// set is a set of numbers of steps, a bit each.
type set []uint64

func newSet(size int) set { return make(set, (size+63)/64) }

func (s set) add(n int) { s[n/64] |= 1 << (n % 64) }

func (s set) has(n int) bool { return s[n/64]>>(n%64)&1 == 1 }

// unite adds what another set has; a smaller one may be given.
func (s set) unite(t set) {
	for i, w := range t {
		s[i] |= w
	}
}

func (s set) count() int {
	n := 0
	for _, w := range s {
		n += bits.OnesCount64(w)
	}
	return n
}

// seeker finds changes of a proof.
type seeker struct {
	theorem   api.Frame
	variables []string // those that formulas of its proof may have
	rules     []rule   // the assertions that are tried
	proof     api.Proof
	formulas  [][]string // those of the steps
	texts     []text
	size      int              // of the proof
	first     map[text]int     // the first step with a formula
	firsts    map[string][]int // the first steps with their formulas, by typecodes
	closures  []set            // each step, and those that it needs
}

func newSeeker(db api.Database, i int, p api.Proof, formulas [][]string) *seeker {
	x := &seeker{theorem: db.Frames[i], formulas: formulas}
	c := coder{}
	for _, f := range db.Frames[:i] {
		if len(f.Hyps) <= MaxArgs {
			x.rules = append(x.rules, c.rule(f))
		}
	}
	for _, h := range slices.Concat(x.theorem.Hyps, x.theorem.Dummies) {
		if h.Floating {
			x.variables = append(x.variables, h.Text[1])
		}
	}
	var all []int
	for n, formula := range formulas {
		x.texts = append(x.texts, c.text(formula))
		all = append(all, n)
	}
	x.proof = copied(p, all)
	x.index()
	return x
}

// index finds what is asked again and again of a proof.
func (x *seeker) index() {
	x.first, x.firsts, x.closures = map[text]int{}, map[string][]int{}, nil
	for n, t := range x.texts {
		if _, ok := x.first[t]; !ok {
			x.first[t] = n
			x.firsts[t.code] = append(x.firsts[t.code], n)
		}
		own := newSet(len(x.texts))
		own.add(n)
		for _, a := range x.proof.Steps[n].Args {
			own.unite(x.closures[a])
		}
		x.closures = append(x.closures, own)
	}
	x.size = x.closures[len(x.closures)-1].count()
}

// make changes the proof.
func (x *seeker) make(c Change) {
	p, kept := c.done(x.proof)
	x.proof = copied(p, kept)
	for at, n := range kept {
		x.formulas[at], x.texts[at] = x.formulas[n], x.texts[n]
	}
	x.formulas, x.texts = x.formulas[:len(kept)], x.texts[:len(kept)]
	x.index()
}

// others returns the steps that the last one needs when a step, which is among them, needs none.
func (x *seeker) others(step int) set {
	l := newSet(len(x.texts))
	l.add(len(x.texts) - 1)
	for n := len(x.texts) - 1; n >= 0; n-- {
		if n != step && l.has(n) {
			for _, a := range x.proof.Steps[n].Args {
				l.add(a)
			}
		}
	}
	return l
}

// changes yields those changes of a step behind which the proof has at most so many steps, in their order.
func (x *seeker) changes(step, most int) iter.Seq[Change] {
	return func(yield func(Change) bool) {
		others := x.others(step)
		count := others.count()
		if !others.has(step) || count-1 > most {
			return
		}
		c := Change{Reason: Shared, Step: step, Before: x.size}
		if t := x.first[x.texts[step]]; t < step {
			c.Args, c.After = []int{t}, x.united(others, t)-1
			if c.After <= most && !yield(c) {
				return
			}
		}
		if count > most {
			return
		}
		c.Reason = Replaced
		for _, r := range x.rules {
			c.Label = r.Label
			for _, args := range x.found(r, step, others, most) {
				c.Args, c.After = args, x.united(others, args...)
				if !yield(c) {
					return
				}
			}
		}
	}
}

// united returns how many steps there are when some others are needed, too.
func (x *seeker) united(others set, steps ...int) int {
	all := slices.Clone(others)
	for _, n := range steps {
		all.unite(x.closures[n])
	}
	return all.count()
}

// found returns the Args by which an assertion gives the formula of a step, if the proof has at most so many steps then.
func (x *seeker) found(r rule, step int, others set, most int) [][]int {
	var l [][]int
	for args := range x.candidates(r, step) {
		if x.united(others, args...) <= most && x.isApart(r, args) {
			l = append(l, slices.Clone(args))
		}
	}
	slices.SortFunc(l, slices.Compare)
	return l
}

// isApart reports whether the theorem allows the disjointness of an assertion with some Args.
func (x *seeker) isApart(r rule, args []int) bool {
	var l []api.Bind
	for k, h := range r.Hyps {
		if h.Floating {
			l = append(l, api.Bind{Var: h.Text[1], Text: x.formulas[args[k]][1:]})
		}
	}
	_, broken := subst.Broken(l, r.Apart, x.variables, x.theorem.Wide)
	return !broken
}

// falling yields changes that make the proof shorter, each step's in their order; those of a step that cannot be better than the ones ahead are left out.
func (x *seeker) falling() iter.Seq[Change] {
	return func(yield func(Change) bool) {
		most := x.size - 1
		for step := range x.texts {
			for c := range x.changes(step, most) {
				if !yield(c) {
					return
				}
				most = min(most, c.After-1)
			}
		}
	}
}
