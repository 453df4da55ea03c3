package assist

import (
	"math/rand"
	"slices"
	"strconv"
	"strings"
	"testing"

	"apodixis/api"
	"apodixis/compress"
	"apodixis/frame"
	"apodixis/graph"
	"apodixis/layout"
	"apodixis/stream"
	"apodixis/syntax"
	"apodixis/unify"
	"apodixis/verify"
)

// state is a version of the model.
type state struct {
	steps []Step
	apart []api.Pair
	next  int
}

// model does what the document says, with the functions of lower layers on the extended database.
type model struct {
	db       api.Database
	number   int
	versions []state
	at       int
}

func (m *model) theorem() api.Frame { return m.db.Frames[m.number] }

func (m *model) now() state { return m.versions[m.at] }

// keep adds a version, or returns the error.
func (m *model) keep(s state, e api.Errno) api.Errno {
	if e == api.OK {
		m.versions = append(slices.Clone(m.versions[:m.at+1]), s)
		m.at++
	}
	return e
}

// with returns the present version, of which steps can be changed.
func (m *model) with() state {
	s := m.now()
	s.steps = slices.Clone(s.steps)
	return s
}

func (s state) isOpen(n int) bool { return n >= 0 && n < len(s.steps) && s.steps[n].Label == "" }

func unified(e api.Errno) api.Errno {
	if e == unify.ErrClash || e == unify.ErrOccurs {
		return ErrUnify
	}
	return e
}

// label returns the label of the floating hypothesis of a variable.
func (m *model) label(variable string) string {
	for _, h := range slices.Concat(m.theorem().Hyps, m.theorem().Dummies) {
		if h.Floating && h.Text[1] == variable {
			return h.Label
		}
	}
	return ""
}

// substituted returns a version behind a substitution.
func (m *model) substituted(s state, l []unify.Sub) (state, api.Errno) {
	for n := range s.steps {
		t, e := unify.Apply(s.steps[n].Tree, l)
		if e != api.OK {
			return s, e
		}
		s.steps[n].Tree = t
	}
	var e api.Errno
	s.apart, e = unify.Apart(m.db, l, s.apart)
	if e != api.OK {
		return s, e
	}
	for _, p := range s.apart {
		isPermitted := strings.HasPrefix(p.A, "&") || strings.HasPrefix(p.B, "&")
		for _, w := range m.theorem().Wide {
			a, b := m.label(w.A), m.label(w.B)
			isPermitted = isPermitted || p == api.Pair{A: a, B: b} || p == api.Pair{A: b, B: a}
		}
		if !isPermitted {
			return s, api.ErrApart
		}
	}
	return s, api.OK
}

func (m *model) apply(goal int, label string) (state, api.Errno) {
	s := m.with()
	if !s.isOpen(goal) {
		return s, ErrGoal
	}
	i := frame.Find(m.db, label)
	if i < 0 || i >= m.number {
		return s, api.ErrNone
	}
	f := m.db.Frames[i]
	isOther := f.Text[0] != "|-"
	for _, h := range f.Hyps {
		isOther = isOther || !h.Floating && h.Text[0] != "|-"
	}
	if isOther {
		return s, api.ErrType
	}
	hyps, tree, works, e := unify.Fresh(m.db, i, s.next)
	if e != api.OK {
		return s, e
	}
	if len(s.steps)+len(hyps) > 1000 {
		return s, api.ErrFull
	}
	l, e := unify.Unify(m.db, []api.Tree{s.steps[goal].Tree}, []api.Tree{tree})
	if e != api.OK {
		return s, unified(e)
	}
	s.steps[goal].Label, s.steps[goal].Args = label, nil
	for _, h := range hyps {
		s.steps[goal].Args = append(s.steps[goal].Args, len(s.steps))
		s.steps = append(s.steps, Step{Tree: h})
	}
	work := func(variable string) string {
		for _, w := range works {
			if w.Label == m.label(variable) {
				return w.Tree.Label
			}
		}
		return ""
	}
	var pairs []api.Pair
	for _, p := range f.Apart {
		pairs = append(pairs, api.Pair{A: work(p.A), B: work(p.B)})
	}
	more, e := unify.Apart(m.db, l, pairs)
	if e != api.OK {
		return s, e
	}
	s.apart = append(slices.Clone(s.apart), more...)
	s.next += len(works)
	return m.substituted(s, l)
}

func (m *model) assume(goal int, label string) (state, api.Errno) {
	s := m.with()
	if !s.isOpen(goal) {
		return s, ErrGoal
	}
	for _, h := range m.theorem().Hyps {
		if h.Floating || h.Label != label {
			continue
		}
		t, _ := syntax.Tree(m.db, h.Text)
		l, e := unify.Unify(m.db, []api.Tree{s.steps[goal].Tree}, []api.Tree{t})
		if e != api.OK {
			return s, unified(e)
		}
		s.steps[goal].Label = label
		return m.substituted(s, l)
	}
	return s, api.ErrNone
}

// needs reports whether a step needs another one.
func (s state) needs(n, other int) bool {
	for _, a := range s.steps[n].Args {
		if a == other || s.needs(a, other) {
			return true
		}
	}
	return false
}

func (m *model) reuse(goal, step int) (state, api.Errno) {
	s := m.with()
	switch {
	case !s.isOpen(goal):
		return s, ErrGoal
	case step < 0 || step >= len(s.steps):
		return s, api.ErrNone
	case step == goal || s.needs(step, goal):
		return s, api.ErrOrder
	}
	l, e := unify.Unify(m.db, []api.Tree{s.steps[goal].Tree}, []api.Tree{s.steps[step].Tree})
	if e != api.OK {
		return s, unified(e)
	}
	s.steps[goal].Label, s.steps[goal].Args = "=", []int{step}
	return m.substituted(s, l)
}

// hasWork reports whether a work variable is in the tree of a step.
func (s state) hasWork(label string) bool {
	for _, x := range s.steps {
		if slices.Contains(unify.Works(x.Tree), label) {
			return true
		}
	}
	return false
}

// wrong returns the error of a tree of a sort.
func (m *model) wrong(t api.Tree, sort string) api.Errno {
	found, e := unify.Sort(m.db, t)
	if e != api.OK {
		return e
	}
	if found != sort {
		return api.ErrType
	}
	for _, w := range unify.Works(t) {
		if !m.now().hasWork(w) {
			return api.ErrScope
		}
	}
	return api.OK
}

func (m *model) have(t api.Tree) (state, api.Errno) {
	s := m.with()
	if e := m.wrong(t, "wff"); e != api.OK {
		return s, e
	}
	if len(s.steps) == 1000 {
		return s, api.ErrFull
	}
	s.steps = append(s.steps, Step{Tree: t})
	return s, api.OK
}

func (m *model) set(label string, t api.Tree) (state, api.Errno) {
	s := m.with()
	sort, _, _ := unify.IsWork(label)
	if !s.hasWork(label) {
		return s, api.ErrNone
	}
	if e := m.wrong(t, sort); e != api.OK {
		return s, e
	}
	if slices.Contains(unify.Works(t), label) {
		return s, ErrUnify
	}
	return m.substituted(s, []unify.Sub{{Label: label, Tree: t}})
}

// view returns what View has to return.
func (s state) view() View {
	v := View{Steps: s.steps, Apart: s.apart}
	for n := range s.steps {
		if s.isOpen(n) {
			v.Open = append(v.Open, n)
		}
	}
	return v
}

// written returns a text of a tree of any size.
func written(t api.Tree) string {
	s := t.Label
	for i, k := range t.Kids {
		s += []string{"(", ","}[min(i, 1)] + written(k)
	}
	if len(t.Kids) > 0 {
		s += ")"
	}
	return s
}

// text returns a text of a view, such as "wi(wph,wps) mp 1 2; wph; wi(wph,wps) | wph vx".
func text(v View) string {
	var l []string
	for n, s := range v.Steps {
		x := written(s.Tree) + " " + s.Label
		for _, a := range s.Args {
			x += " " + strconv.Itoa(a)
		}
		if slices.Contains(v.Open, n) {
			x += "?"
		}
		l = append(l, x)
	}
	s := strings.Join(l, "; ")
	for _, p := range v.Apart {
		s += " | " + p.A + " " + p.B
	}
	return s
}

// random returns a random tree of a sort, with some labels that are wrong.
func random(r *rand.Rand, sort byte, depth int, works []string) api.Tree {
	if len(works) > 0 && r.Intn(3) == 0 {
		return api.Tree{Label: works[r.Intn(len(works))]}
	}
	if r.Intn(25) == 0 {
		return api.Tree{Label: []string{"no", "&wff.77", "&set.77", "&no.0", "wn"}[r.Intn(5)]}
	}
	if sort == 'x' {
		return api.Tree{Label: []string{"vx", "vy", "vz"}[r.Intn(3)]}
	}
	label := []string{"wph", "wps", "wch", "tru", "wn", "wi", "wi", "wal", "weq"}[r.Intn(9)]
	if depth == 0 {
		label = []string{"wph", "wps", "wch", "tru"}[r.Intn(4)]
	}
	t := api.Tree{Label: label}
	for _, k := range []byte(map[string]string{"wn": "w", "wi": "ww", "wal": "wx", "weq": "xx"}[label]) {
		t.Kids = append(t.Kids, random(r, k, depth-1, works))
	}
	return t
}

// players do the same with an assistant and with the model.
type players struct {
	*testing.T
	r *rand.Rand
	a *Assistant
	m *model
}

// logic has axioms with and without premises, disjoint pairs, and assertions that cannot be applied.
const logic = `$c wff set |- ( ) -> -. A. = T. F. $. $v ph ps ch x y z $.
wph $f wff ph $. wps $f wff ps $. wch $f wff ch $. vx $f set x $. vy $f set y $. vz $f set z $.
wn $a wff -. ph $. wi $a wff ( ph -> ps ) $. wal $a wff A. x ph $. weq $a wff x = y $. tru $a wff T. $. f1 $a wff F. $. f2 $a wff F. $.
a1 $a |- ( ph -> ( ps -> ph ) ) $. a2 $a |- ( ( ph -> ( ps -> ch ) ) -> ( ( ph -> ps ) -> ( ph -> ch ) ) ) $.
${ min $e |- ph $. maj $e |- ( ph -> ps ) $. mp $a |- ps $. $} ${ g $e |- ph $. gen $a |- A. x ph $. $} ${ $d x ph $. a5 $a |- ( ph -> A. x ph ) $. $}
${ $d x y $. a6 $a |- ( A. x x = y -> ph ) $. $} ${ $d x ph $. $d ps ph $. s1 $e |- ( ph -> ps ) $. s2 $e |- A. x ( ps -> ch ) $. syl $a |- ( ph -> ch ) $. $}
tt $a |- T. $. any $a |- ph $. ${ o $e wff ph $. other $a |- ph $. $} amb $a |- F. $. ${ b $e |- ( T. $. bad $a |- ph $. $} wt $p wff ( T. -> T. ) $= tru tru wi $. `

var labels = strings.Fields("a1 a2 mp gen a5 a6 syl tt any other amb bad wt wn th no e1 e2 late mp mp syl")

// works returns the work variables of the present version.
func (p players) works() []string {
	var l []string
	for _, s := range p.m.now().steps {
		l = append(l, unify.Works(s.Tree)...)
	}
	return l
}

// goal returns an open step, or another number.
func (p players) goal() int {
	open := p.m.now().view().Open
	if len(open) == 0 || p.r.Intn(12) == 0 {
		return p.r.Intn(len(p.m.now().steps)+3) - 1
	}
	return open[p.r.Intn(len(open))]
}

// move does something, and returns what, and its error.
func (p players) move() (string, api.Errno) {
	switch p.r.Intn(16) {
	case 0, 1:
		goal, label := p.goal(), []string{"e1", "e2", "e1", "mp", "wph"}[p.r.Intn(5)]
		return p.done("Assume", p.a.Assume(goal, label), p.m.keep(p.m.assume(goal, label)))
	case 2, 3:
		goal, step := p.goal(), p.r.Intn(len(p.m.now().steps)+3)-1
		return p.done("Reuse", p.a.Reuse(goal, step), p.m.keep(p.m.reuse(goal, step)))
	case 4:
		t := random(p.r, []byte("wwwx")[p.r.Intn(4)], p.r.Intn(3), p.works())
		n, e := p.a.Have(t)
		if want := len(p.m.now().steps); e == api.OK && n != want || e != api.OK && n != 0 {
			p.Fatalf("Have returns %d, want %d", n, want)
		}
		return p.done("Have", e, p.m.keep(p.m.have(t)))
	case 5, 6, 7:
		works := append(p.works(), "&wff.99", "wph", "no")
		label := works[p.r.Intn(len(works))]
		t := random(p.r, []byte("wwwwx")[p.r.Intn(5)], p.r.Intn(3), p.works())
		return p.done("Set", p.a.Set(label, t), p.m.keep(p.m.set(label, t)))
	case 8:
		ok := p.m.at > 0
		if ok {
			p.m.at--
		}
		if p.a.Undo() != ok {
			p.Fatalf("Undo of the version %d", p.m.at)
		}
		return "Undo", api.OK
	case 9:
		ok := p.m.at < len(p.m.versions)-1
		if ok {
			p.m.at++
		}
		if p.a.Redo() != ok {
			p.Fatalf("Redo to the version %d of %d", p.m.at, len(p.m.versions))
		}
		return "Redo", api.OK
	}
	goal, label := p.goal(), labels[p.r.Intn(len(labels))]
	return p.done("Apply", p.a.Apply(goal, label), p.m.keep(p.m.apply(goal, label)))
}

// done compares two errors of a move.
func (p players) done(move string, e, want api.Errno) (string, api.Errno) {
	p.Helper()
	if e != want {
		p.Fatalf("%s: %d, want %d, at %s", move, e, want, text(p.m.now().view()))
	}
	return move, e
}

// compare compares what there is behind a move. P22.5: and what Applicable returns with what Apply does.
func (p players) compare(move string) {
	p.Helper()
	if got, want := text(p.a.View()), text(p.m.now().view()); got != want || p.a.Version() != p.m.at {
		p.Fatalf("behind %s: the version %d\n%s\nwant %d\n%s", move, p.a.Version(), got, p.m.at, want)
	}
	if p.r.Intn(6) > 0 {
		return
	}
	goal := p.goal()
	l, e := p.a.Applicable(goal)
	var want []string
	wrong := ErrGoal
	if p.m.now().isOpen(goal) {
		wrong = api.OK
		for _, f := range p.m.db.Frames[:p.m.number] {
			if _, e := p.m.apply(goal, f.Label); e == api.OK {
				want = append(want, f.Label)
			}
		}
	}
	if e != wrong || !slices.Equal(l, want) {
		p.Fatalf("Applicable of %d: %q, %d, want %q, %d, at %s", goal, l, e, want, wrong, text(p.m.now().view()))
	}
}

// P22.1, P22.3 to P22.5: random moves of an assistant and of the model.
func TestRandomMoves(t *testing.T) {
	r := rand.New(rand.NewSource(22))
	counts := map[string]int{}
	for range 200 {
		pairs := []string{"", "$d x y ph ps ch z $.", "$d x ph $. $d y z $.", "$d x y z $. $d ph ps $. $d x ph $."}[r.Intn(4)]
		goal := random(r, 'w', 2, nil)
		if r.Intn(3) == 0 { // an instance of the assertion a5
			x := random(r, 'w', 1, nil)
			goal = api.Tree{Label: "wi", Kids: []api.Tree{x, {Label: "wal", Kids: []api.Tree{x, {Label: "vx"}}}}}
		}
		db := database(t, logic)
		f, e := syntax.Text(db, goal)
		if e != api.OK {
			continue
		}
		db = database(t, logic+"${ "+pairs+" e1 $e |- ( ph -> A. x ph ) $. e2 $e |- ps $. th $p |- "+strings.Join(f[1:], " ")+" $= ? $. $} late $a |- ch $.")
		n := frame.Find(db, "th")
		a, e := New(db, n, db.Frames[n])
		if e != api.OK {
			t.Fatalf("%q: %d", f, e)
		}
		db.Frames = db.Frames[:n+1]
		p := players{t, r, a, &model{db: db, number: n, versions: []state{{steps: []Step{{Tree: goal}}}}}}
		p.compare("New")
		for range 25 {
			before := a.View()
			move, e := p.move()
			if counts[move+" "+strconv.Itoa(int(e))]++; move != "Undo" && move != "Redo" && !isInstance(before, a.View()) {
				t.Fatalf("%s: %s behind %s", move, text(a.View()), text(before))
			}
			p.compare(move)
			p.prove(counts)
		}
	}
	for _, s := range strings.Fields("Apply:0:241:5:11:190:191:240:26 Assume:0:241:5:240 Reuse:0:241:5:7:240 Have:0:2:11 Set:0:5:2:11:240 Undo:0 Redo:0 Proof:0:242") {
		l := strings.Split(s, ":")
		for _, e := range l[1:] {
			if counts[l[0]+" "+e] == 0 {
				t.Errorf("%s with the error %s came %d times", l[0], e, counts[l[0]+" "+e])
			}
		}
	}
}

// isInstance reports whether one substitution makes the steps of a view those of another one, which may have more, and whether all that was proved still is. P22.4.
func isInstance(v, w View) bool {
	values := map[string]api.Tree{}
	var becomes func(x, y api.Tree) bool
	becomes = func(x, y api.Tree) bool {
		if _, _, ok := unify.IsWork(x.Label); ok {
			if _, ok := values[x.Label]; !ok {
				values[x.Label] = y
			}
			return syntax.Equal(values[x.Label], y)
		}
		return x.Label == y.Label && slices.EqualFunc(x.Kids, y.Kids, becomes)
	}
	for n, s := range v.Steps {
		x := w.Steps[n]
		if !becomes(s.Tree, x.Tree) || s.Label != "" && (s.Label != x.Label || !slices.Equal(s.Args, x.Args)) {
			return false
		}
	}
	return true
}

// prove checks Proof. P22.2, P7: both verifiers accept what it returns.
func (p players) prove(counts map[string]int) {
	p.Helper()
	s := p.m.now()
	isOpen := false
	for n, x := range s.steps {
		if n == 0 || s.needs(0, n) {
			isOpen = isOpen || x.Label == "" || len(unify.Works(x.Tree)) > 0
		}
	}
	q, e := p.a.Proof()
	counts["Proof "+strconv.Itoa(int(e))]++
	if isOpen {
		if e != ErrOpen || len(q.Steps) > 0 {
			p.Fatalf("%v, %d, at %s", q, e, text(s.view()))
		}
		return
	}
	if e == ErrOpen || e != api.OK && len(q.Steps) > 0 {
		p.Fatalf("%v, %d, at %s", q, e, text(s.view()))
	}
	if e == api.OK {
		db, n := p.a.Theorem()
		accept(p.T, db, n, q)
	}
}

// accept checks that both verifiers accept a proof, which uses nothing that stands behind the theorem.
func accept(t *testing.T, db api.Database, n int, p api.Proof) {
	t.Helper()
	words, e := graph.Labels(db, n, p)
	if v, f := verify.Proof(db, n, words); e != api.OK || f != api.OK || v != (api.Verdict{}) {
		t.Fatalf("%v: %v, %d, %d", p, v, e, f)
	}
	for _, label := range graph.Names(p) {
		_, isHyp := frame.Hyp(db.Frames[n], label)
		if k := frame.Find(db, label); !isHyp && (k < 0 || k >= n) {
			t.Fatalf("%v uses %s", p, label)
		}
	}
	db.Frames = slices.Clone(db.Frames)
	db.Frames[n].Proof, e = compress.Proof(db, n, p)
	l, f := frame.Statements(db)
	s, g := layout.Print(l, 80)
	named, h := stream.Verify(s)
	if e != api.OK || f != api.OK || g != api.OK || h != api.OK || named[len(named)-1].Verdict != (api.Verdict{}) {
		t.Fatalf("%v: the second verifier: %v, %d %d %d %d", p, named, e, f, g, h)
	}
}
