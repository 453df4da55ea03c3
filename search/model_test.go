package search

import (
	"math"
	"math/rand"
	"slices"
	"strconv"
	"strings"
	"testing"

	"apodixis/api"
	"apodixis/assist"
	"apodixis/compress"
	"apodixis/frame"
	"apodixis/graph"
	"apodixis/layout"
	"apodixis/stream"
	"apodixis/verify"
)

// database returns the database of a text.
func database(t *testing.T, s string) api.Database {
	t.Helper()
	l, _, e := layout.Parse(strings.Fields(s))
	db, at, f := frame.Database(l)
	if e != api.OK || f != api.OK {
		t.Fatalf("%q: %d, %d at %d", s, e, f, at)
	}
	return db
}

// logic has axioms, rules, and assertions that cannot be applied.
const logic = `$c wff set |- ( ) -> -. A. T. $. $v ph ps ch x y $. wph $f wff ph $. wps $f wff ps $. wch $f wff ch $. vx $f set x $. vy $f set y $.
wn $a wff -. ph $. wi $a wff ( ph -> ps ) $. wal $a wff A. x ph $. tru $a wff T. $.
a1 $a |- ( ph -> ( ps -> ph ) ) $. a2 $a |- ( ( ph -> ( ps -> ch ) ) -> ( ( ph -> ps ) -> ( ph -> ch ) ) ) $. ${ o $e wff ph $. other $a |- ph $. $}
${ min $e |- ph $. maj $e |- ( ph -> ps ) $. mp $a |- ps $. $} ${ g $e |- ph $. gen $a |- A. x ph $. $} ${ $d x ph $. a5 $a |- ( ph -> A. x ph ) $. $}
${ s1 $e |- ( ph -> ps ) $. s2 $e |- ( ps -> ch ) $. syl $a |- ( ph -> ch ) $. $} tt $a |- T. $. ${ n1 $e |- -. -. ph $. nn $a |- ph $. $} wt $p wff ( T. -> T. ) $= tru tru wi $. `

// theorem returns logic with a theorem th behind it, and its number.
func theorem(t *testing.T, s string) (api.Database, int) {
	t.Helper()
	db := database(t, logic+s)
	return db, frame.Find(db, "th")
}

// move is an attempt on a goal; one by a label of a premise is Assume.
type move struct {
	goal      int
	label     string
	isPremise bool
}

func (m move) make(a *assist.Assistant) api.Errno {
	if m.isPremise {
		return a.Assume(m.goal, m.label)
	}
	return a.Apply(m.goal, m.label)
}

// model searches as the document says it. It makes each state anew.
type model struct {
	*testing.T
	db      api.Database
	n       int
	options Options
	first   []move
	used    int
	isSpent bool
}

// state returns the assistant behind moves that are right.
func (m *model) state(l []move) *assist.Assistant {
	m.Helper()
	a, e := assist.New(m.db, m.n, m.db.Frames[m.n])
	for _, x := range slices.Concat(m.first, l) {
		if f := x.make(a); e != api.OK || f != api.OK {
			m.Fatalf("%v: %d, %d", l, e, f)
		}
	}
	return a
}

// attempts returns those on a goal.
func (m *model) attempts(goal int) []move {
	var l []move
	for _, h := range m.db.Frames[m.n].Hyps {
		if !h.Floating {
			l = append(l, move{goal, h.Label, true})
		}
	}
	for _, f := range m.db.Frames[:m.n] {
		if f.Text[0] == "|-" && (len(m.options.Use) == 0 || slices.Contains(m.options.Use, f.Label)) {
			l = append(l, move{goal, f.Label, false})
		}
	}
	return l
}

// next returns the moves that lead on from a state by the attempts on a goal that return OK, until the fuel is used up.
func (m *model) next(l []move, goal int) func(yield func([]move) bool) {
	return func(yield func([]move) bool) {
		for _, x := range m.attempts(goal) {
			if m.used == m.options.Fuel {
				m.isSpent = true
				return
			}
			m.used++
			if x.make(m.state(l)) == api.OK && !yield(append(slices.Clone(l), x)) {
				return
			}
		}
	}
}

// deepen searches with a limit; goals returns those of a view that count.
func (m *model) deepen(l []move, limit int, goals func(assist.View) []int, isDone func(*assist.Assistant) bool) ([]move, bool) {
	a := m.state(l)
	open := goals(a.View())
	if len(open) == 0 {
		return l, isDone(a)
	}
	if len(open) > limit {
		return nil, false
	}
	for way := range m.next(l, open[0]) {
		if found, ok := m.deepen(way, limit-1, goals, isDone); ok || m.isSpent {
			return found, ok
		}
	}
	return nil, false
}

// ended returns what a search ends with that found nothing.
func (m *model) ended() (Found, api.Errno) {
	if m.isSpent {
		return Found{Used: m.used}, api.ErrSteps
	}
	return Found{Used: m.used}, api.ErrNone
}

func deepenModel(m *model) (Found, api.Errno) {
	goals := func(v assist.View) []int { return v.Open }
	isProved := func(a *assist.Assistant) bool {
		_, e := a.Proof()
		return e == api.OK
	}
	for limit := 0; limit <= m.options.Depth && !m.isSpent; limit++ {
		if l, ok := m.deepen(nil, limit, goals, isProved); ok {
			p, _ := m.state(l).Proof()
			return Found{p, m.used, limit}, api.OK
		}
	}
	return m.ended()
}

// weightModel returns the weight of a tree.
func weightModel(t api.Tree) float32 {
	if len(t.Kids) == 0 {
		if strings.HasPrefix(t.Label, "&wff.") || strings.HasPrefix(t.Label, "&set.") {
			return 0.5
		}
		return 1
	}
	var sum float32 = 1
	for _, k := range t.Kids {
		sum = sum + weightModel(k)
	}
	return sum
}

func (m *model) cost(l []move) float32 {
	v := m.state(l).View()
	sum := float32(len(l))
	for _, n := range v.Open {
		sum = sum + weightModel(v.Steps[n].Tree)
	}
	return sum
}

func bestModel(m *model) (Found, api.Errno) {
	queue, costs := [][]move{nil}, []float32{m.cost(nil)}
	for len(queue) > 0 && !m.isSpent {
		at := slices.Index(costs, slices.Min(costs))
		l := queue[at]
		queue, costs = slices.Delete(queue, at, at+1), slices.Delete(costs, at, at+1)
		a := m.state(l)
		open := a.View().Open
		if p, e := a.Proof(); len(open) == 0 && e == api.OK {
			return Found{p, m.used, len(l)}, api.OK
		}
		if len(open) == 0 || len(l) >= m.options.Depth {
			continue
		}
		for way := range m.next(l, open[0]) {
			queue, costs = append(queue, way), append(costs, m.cost(way))
		}
	}
	return m.ended()
}

// fillModel returns how many goals are filled, and the moves that fill them.
func fillModel(m *model) (int, []move) {
	var l []move
	filled := 0
	for _, goal := range m.state(nil).View().Open {
		before := len(m.state(l).View().Steps)
		goals := func(v assist.View) []int {
			return slices.DeleteFunc(v.Open, func(n int) bool { return n != goal && n < before })
		}
		for limit := 1; limit <= m.options.Depth; limit++ {
			way, ok := m.deepen(l, limit, goals, func(*assist.Assistant) bool { return true })
			if m.isSpent {
				return filled, l
			}
			if ok {
				filled++
				l = way
				break
			}
		}
	}
	return filled, l
}

func sameFound(f, g Found) bool {
	return f.Used == g.Used && f.Depth == g.Depth && slices.EqualFunc(f.Proof.Steps, g.Proof.Steps, func(x, y api.Step) bool { return x.Label == y.Label && slices.Equal(x.Args, y.Args) })
}

// problems are theorems with proofs of different lengths, some of them without any.
const problems = `th $p |- ( ph -> ( ph -> ph ) ) $= ? $.
${ e1 $e |- ph $. e2 $e |- ( ph -> ps ) $. th $p |- ps $= ? $. $}
${ e1 $e |- ph $. th $p |- ( ps -> ph ) $= ? $. $}
${ e1 $e |- ( ph -> ps ) $. e2 $e |- ( ps -> ch ) $. th $p |- ( ph -> ch ) $= ? $. $}
${ e1 $e |- ( ph -> ps ) $. e2 $e |- ( ps -> ch ) $. e3 $e |- ph $. th $p |- ch $= ? $. $}
th $p |- ph $= ? $.
th $p |- T. $= ? $.
th $p |- A. x A. y T. $= ? $.
$d x ph $. th $p |- ( ph -> A. x ph ) $= ? $.
th $p |- ( ph -> A. x ph ) $= ? $.
${ $d x ph $. e1 $e |- ph $. th $p |- A. x ph $= ? $. $}
th $p |- ( ph -> ph ) $= ? $.
${ e1 $e |- -. -. -. -. ph $. th $p |- ph $= ? $. $}
${ e1 $e |- ( ph -> -. -. ps ) $. e2 $e |- ph $. th $p |- A. x ps $= ? $. $}`

// problem returns a random one, and random options.
func problem(t *testing.T, r *rand.Rand) *model {
	t.Helper()
	l := strings.Split(problems, "\n")
	db, n := theorem(t, l[r.Intn(len(l))])
	m := &model{T: t, db: db, n: n}
	m.options = Options{r.Intn(7), []int{0, 1, 5, 30, 100, 300, 300, 300}[r.Intn(8)], strings.Fields([]string{"", "mp", "mp a1", "mp a1 a2 gen", "syl nn no wn tt", "mp other", "no"}[r.Intn(7)])}
	return m
}

// P23.1: random searches, and P23.2, P7: both verifiers accept what is found.
func TestRandomSearches(t *testing.T) {
	r := rand.New(rand.NewSource(23))
	counts := map[string]int{}
	for range 350 {
		m := problem(t, r)
		name, search, want := "Deepen", Deepen, deepenModel
		if r.Intn(2) == 0 {
			name, search, want = "Best", Best, bestModel
		}
		f, e := search(m.db, m.n, m.db.Frames[m.n], m.options)
		g, wrong := want(m)
		if e != wrong || !sameFound(f, g) {
			t.Fatalf("%v by %v: %s: %v, %d, want %v, %d", m.db.Frames[m.n], m.options, name, f, e, g, wrong)
		}
		counts[name+" "+strconv.Itoa(int(e))]++
		if e == api.OK {
			accept(t, m.db, m.n, f.Proof, m.options.Use)
		}
		if e == api.OK && name == "Deepen" {
			checkFound(t, m, f)
		}
	}
	for _, s := range []string{"Deepen 0", "Deepen 5", "Deepen 10", "Best 0", "Best 5", "Best 10"} {
		if counts[s] < 8 {
			t.Errorf("%s came %d times", s, counts[s])
		}
	}
}

// checkFound checks what Deepen found. P23.3: with other limits.
func checkFound(t *testing.T, m *model, f Found) {
	t.Helper()
	deepen := func(depth, fuel int) (Found, api.Errno) {
		o := m.options
		o.Depth, o.Fuel = depth, fuel
		return Deepen(m.db, m.n, m.db.Frames[m.n], o)
	}
	if g, e := deepen(f.Depth-1, maxFuel); e != api.ErrNone || len(g.Proof.Steps) > 0 || g.Depth != 0 {
		t.Fatalf("%v with a lesser depth: %v, %d", f, g, e)
	}
	if g, e := deepen(f.Depth, f.Used-1); e != api.ErrSteps || !sameFound(g, Found{Used: f.Used - 1}) {
		t.Fatalf("%v with less fuel: %v, %d", f, g, e)
	}
	for _, depth := range []int{f.Depth, f.Depth + 1, maxDepth} {
		for _, fuel := range []int{f.Used, f.Used + 1, maxFuel} {
			if g, e := deepen(depth, fuel); e != api.OK || !sameFound(f, g) {
				t.Fatalf("%v with the depth %d and the fuel %d: %v, %d", f, depth, fuel, g, e)
			}
		}
	}
	p, e := graph.Expand(f.Proof, api.MaxSteps)
	if e != api.OK {
		t.Fatal(e)
	}
	count := 0
	texts, _, _ := graph.Texts(m.db, m.n, p)
	for _, text := range texts {
		if text[0] == "|-" {
			count++
		}
	}
	if count != f.Depth {
		t.Fatalf("%v: %d steps that are no syntax", f, count)
	}
	a := m.state(nil)
	if e := Run(a, 0, tacticOf(p, texts, len(texts)-1)); e != api.OK || len(a.View().Open) > 0 {
		t.Fatalf("%v: its labels as a tactic: %d, %s", f, e, text(a.View()))
	}
	if q, e := a.Proof(); e != api.OK || !sameFound(f, Found{q, f.Used, f.Depth}) {
		t.Fatalf("%v: its labels prove it by %v, %d", f, q, e)
	}
}

// tacticOf returns the tactic that follows a step of a proof. P23.4.
func tacticOf(p api.Proof, texts [][]string, step int) Tactic {
	var premises []int
	for _, a := range p.Steps[step].Args {
		if texts[a][0] == "|-" {
			premises = append(premises, a)
		}
	}
	return Then(By(p.Steps[step].Label), func(a *assist.Assistant, goal int) api.Errno {
		next := premises[0]
		premises = premises[1:]
		return tacticOf(p, texts, next)(a, goal)
	})
}

// accept checks that both verifiers accept a proof, which uses only certain assertions, or any ahead.
func accept(t *testing.T, db api.Database, n int, p api.Proof, use []string) {
	t.Helper()
	words, e := graph.Labels(db, n, p)
	if v, f := verify.Proof(db, n, words); e != api.OK || f != api.OK || v != (api.Verdict{}) {
		t.Fatalf("%v: %v, %d, %d", p, v, e, f)
	}
	for _, label := range graph.Names(p) {
		k := frame.Find(db, label)
		if _, isHyp := frame.Hyp(db.Frames[n], label); isHyp {
			continue
		}
		isUsed := k >= 0 && (db.Frames[k].Text[0] != "|-" || len(use) == 0 || slices.Contains(use, label))
		if !isUsed || k >= n {
			t.Fatalf("%v uses %s", p, label)
		}
	}
	db.Frames = slices.Clone(db.Frames)
	db.Frames[n].Proof, e = compress.Proof(db, n, p)
	l, f := frame.Statements(db)
	s, g := layout.Print(l, 80)
	named, h := stream.Verify(s)
	if e != api.OK || f != api.OK || g != api.OK || h != api.OK || named[len(named)-1].Verdict != (api.Verdict{}) {
		t.Fatalf("%v: the second verifier: %v, %d %d %d %d", p, named, e, f, g, h)
	}
}

// text returns a text of a view.
func text(v assist.View) string {
	var tree func(t api.Tree) string
	tree = func(t api.Tree) string {
		s := t.Label
		for i, k := range t.Kids {
			s += []string{"(", ","}[min(i, 1)] + tree(k)
		}
		if len(t.Kids) > 0 {
			s += ")"
		}
		return s
	}
	var l []string
	for _, x := range v.Steps {
		s := tree(x.Tree) + " " + x.Label
		for _, a := range x.Args {
			s += " " + strconv.Itoa(a)
		}
		l = append(l, s)
	}
	return strings.Join(l, "; ")
}

// P23.1: Fill of random assistants, in which some steps are done.
func TestRandomFill(t *testing.T) {
	r := rand.New(rand.NewSource(24))
	counts := map[int]int{}
	spent := 0
	for range 250 {
		m := problem(t, r)
		a := m.state(nil)
		for range r.Intn(4) {
			open := a.View().Open
			if len(open) == 0 {
				break
			}
			l := m.attempts(open[r.Intn(len(open))])
			if len(l) == 0 {
				break
			}
			if x := l[r.Intn(len(l))]; x.make(a) == api.OK {
				m.first = append(m.first, x)
			}
		}
		count, e := Fill(a, m.options)
		want, l := fillModel(m)
		if v := text(m.state(l).View()); e != api.OK || count != want || text(a.View()) != v || a.Version() != len(m.first)+len(l) {
			t.Fatalf("%v by %v behind %v: %d, %d, version %d, %s\nwant %d, %s", m.db.Frames[m.n], m.options, m.first, count, e, a.Version(), text(a.View()), want, v)
		}
		counts[count]++
		if m.isSpent {
			spent++
		}
	}
	if counts[0] < 20 || counts[1] < 20 || counts[2] < 3 || spent < 15 {
		t.Errorf("%v, %d times the fuel was used up", counts, spent)
	}
}

// P23.1: the weights of trees.
func TestWeight(t *testing.T) {
	leaf := func(s string) api.Tree { return api.Tree{Label: s} }
	of := func(s string, l ...api.Tree) api.Tree { return api.Tree{Label: s, Kids: l} }
	for name, x := range map[string]struct {
		t    api.Tree
		want float32
	}{
		"nothing": {api.Tree{}, 1}, "a leaf": {leaf("wph"), 1}, "a work variable": {leaf("&wff.0"), 0.5}, "of another sort": {leaf("&x.y.12"), 0.5}, "none of them": {leaf("&wff.01"), 1}, "none either": {leaf("&wff"), 1},
		"a node": {of("wi", leaf("wph"), leaf("&wff.3")), 2.5}, "nested": {of("wi", of("wn", leaf("&wff.0")), of("wn", leaf("&wff.0"))), 4}, "a work variable with Kids": {of("&wff.0", leaf("a"), leaf("&wff.0")), 2.5},
		"no Kids": {api.Tree{Label: "&wff.0", Kids: []api.Tree{}}, 0.5},
	} {
		if got := Weight(x.t); got != math.Float32bits(x.want) {
			t.Errorf("%s: %x, want %x", name, got, math.Float32bits(x.want))
		}
	}
	deep := leaf("&wff.0")
	for range 1 << 16 {
		deep = of("wn", deep)
	}
	if got := Weight(deep); got != math.Float32bits(65536.5) {
		t.Errorf("a deep tree: %x", got)
	}
	// So many that halves are lost: the order of the sum matters.
	large, half := leaf("y"), leaf("&wff.0")
	for range 23 {
		large = of("x", large, large)
	}
	if got := Weight(of("x", large, half, half, half, half)); got != math.Float32bits(1<<24) {
		t.Errorf("halves behind it: %x", got)
	}
	if got := Weight(of("x", half, half, half, half, large)); got != math.Float32bits(1<<24+2) {
		t.Errorf("halves ahead: %x", got)
	}
}
