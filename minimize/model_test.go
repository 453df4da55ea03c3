package minimize

import (
	"math/rand"
	"slices"
	"strconv"
	"strings"
	"testing"

	"apodixis/api"
	"apodixis/frame"
	"apodixis/graph"
	"apodixis/layout"
	"apodixis/verify"
)

// database returns the database of a text.
func database(t *testing.T, s string) api.Database {
	t.Helper()
	l, _, e := layout.Parse(strings.Fields(s))
	db, at, f := frame.Database(l)
	if e != api.OK || f != api.OK {
		t.Fatalf("%q: %d, %d at %d", s, e, f, at)
	}
	return db
}

// logic has premises ahead of floating hypotheses, formulas that can be read in several ways, empty ones, axioms of more than MaxArgs hypotheses, and disjoint pairs.
const logic = `$c wff set |- ( ) -> -. A. T. $. $v ph ps ch x y $. wph $f wff ph $. ${ late $e |- ph $. wps0 $f wff ps $. early $a |- ( ps -> ph ) $. $}
wps $f wff ps $. wch $f wff ch $. vx $f set x $. vy $f set y $. wn $a wff -. ph $. wi $a wff ( ph -> ps ) $. wal $a wff A. x ph $. tru $a wff T. $. two $a wff ph ps $. none $a wff $.
ax1 $a |- ( ph -> ( ps -> ph ) ) $. ${ min $e |- ph $. maj $e |- ( ph -> ps ) $. mp $a |- ps $. $} ${ $d x ph $. ax5 $a |- A. x ph $. $} tt $a |- T. $.
${ syn $e wff ps $. k2 $e |- ph $. keep $a |- ph $. $} ${ n1 $e |- -. -. ph $. nn $a |- ph $. $} ${ q1 $e |- ph ps $. q2 $e |- ps ch $. join $a |- ph ch $. $} ${ r1 $e |- ph ps ch $. part $a |- T. $. $} `

// given is a step's formula as the document says it, or false with an error.
func given(db api.Database, i int, label string, entries [][]string) ([]string, bool) {
	k := frame.Find(db, label)
	f := db.Frames[k]
	by := map[string][]string{}
	for n, h := range f.Hyps {
		if h.Floating {
			if entries[n][0] != h.Text[0] {
				return nil, false
			}
			by[h.Text[1]] = entries[n][1:]
		}
	}
	image := func(l []string) []string {
		var text []string
		for _, s := range l {
			if x, ok := by[s]; ok {
				text = append(text, x...)
			} else {
				text = append(text, s)
			}
		}
		return text
	}
	for n, h := range f.Hyps {
		if !h.Floating && !slices.Equal(image(h.Text), entries[n]) {
			return nil, false
		}
	}
	for _, p := range f.Apart {
		for _, x := range by[p.A] {
			for _, y := range by[p.B] {
				isPermitted := slices.Contains(db.Frames[i].Wide, api.Pair{A: min(x, y), B: max(x, y)})
				if slices.Contains(db.Variables, x) && slices.Contains(db.Variables, y) && !isPermitted {
					return nil, false
				}
			}
		}
	}
	text := image(f.Text)
	return text, len(text) <= api.MaxFormula
}

// entriesOf returns the formulas of steps.
func entriesOf(texts [][]string, args []int) [][]string {
	var l [][]string
	for _, a := range args {
		l = append(l, texts[a])
	}
	return l
}

// random returns logic with a random theorem th, its number, and a right proof of it; some steps are not needed.
func random(t *testing.T, r *rand.Rand, size int) (api.Database, int, api.Proof) {
	t.Helper()
	pairs := []string{"", "$d x ph $.", "$d x ph ps ch $.", "$d x y ph $."}[r.Intn(4)]
	// The variables are all in the premise, so that their hypotheses are mandatory.
	build := func(text string) (api.Database, int) {
		db := database(t, logic+"${ "+pairs+" e $e |- ( ph -> ps ) $. w $e wff ch $. th $p "+text+" $= ? $. $}")
		return db, len(db.Frames) - 1
	}
	db, i := build("|- A. x A. y T.")
	hyps := strings.Fields("wph wph wps wch vx vy e w")
	var p api.Proof
	var texts [][]string
	add := func(label string, args []int, text []string) {
		p.Steps = append(p.Steps, api.Step{Label: label, Args: args})
		texts = append(texts, text)
	}
	for len(p.Steps) < 3*size {
		if r.Intn(8) == 0 || len(p.Steps) == 0 {
			label := hyps[r.Intn(len(hyps))]
			h, _ := frame.Hyp(db.Frames[i], label)
			add(label, nil, h.Text)
			continue
		}
		f := db.Frames[r.Intn(i)]
		for range 40 {
			var args []int
			for range f.Hyps { // late steps, so that most steps are needed
				args = append(args, len(p.Steps)-1-min(r.Intn(len(p.Steps)), r.Intn(len(p.Steps)), r.Intn(len(p.Steps))))
			}
			if text, ok := given(db, i, f.Label, entriesOf(texts, args)); ok && len(text) < 8 {
				add(f.Label, args, text)
				break
			}
		}
	}
	needs := func(n int) int { return len(neededModel(api.Proof{Steps: p.Steps[:n+1]})) }
	last := 0
	for n := range p.Steps {
		if needs(n) > needs(last) && needs(n) <= size {
			last = n
		}
	}
	p.Steps = p.Steps[:last+1]
	switch r.Intn(3) {
	case 0:
		p = prunedModel(p)
	case 1:
		if q, e := graph.Expand(p, 40); e == api.OK {
			p = q
		}
	}
	db, i = build(strings.Join(texts[last], " "))
	if _, v, e := graph.Texts(db, i, p); e != api.OK || v.Code != api.OK {
		t.Fatalf("%v: %v, %d", p, v, e)
	}
	return db, i, p
}

// roundabout returns random rules from some formulas to another one, and a random proof that goes round.
func roundabout(t *testing.T, r *rand.Rand, size int) (api.Database, int, api.Proof) {
	t.Helper()
	formula := func() string { return "|- p" + strconv.Itoa(r.Intn(16)) }
	s := "$c |- p0 p1 p2 p3 p4 p5 p6 p7 p8 p9 p10 p11 p12 p13 p14 p15 $. "
	for n := range 40 {
		s += "${ "
		for k := range []int{0, 1, 1, 2, 2, 3, 3, 4, 5}[min(n/3, r.Intn(9))] {
			s += "e" + strconv.Itoa(n) + "." + strconv.Itoa(k) + " $e " + formula() + " $. "
		}
		s += "a" + strconv.Itoa(n) + " $a " + formula() + " $. $} "
	}
	db := database(t, s)
	var p api.Proof
	var texts []string
	for range 30 * size {
		f := db.Frames[r.Intn(len(db.Frames))]
		x := api.Step{Label: f.Label}
		for _, h := range f.Hyps {
			var fitting []int
			for n, text := range texts {
				if text == h.Text[1] {
					fitting = append(fitting, n)
				}
			}
			if len(fitting) > 0 {
				x.Args = append(x.Args, fitting[len(fitting)-1-min(r.Intn(len(fitting)), r.Intn(len(fitting)))])
			}
		}
		if len(x.Args) == len(f.Hyps) && len(p.Steps) < size {
			p.Steps, texts = append(p.Steps, x), append(texts, f.Text[1])
		}
	}
	if q, e := graph.Expand(p, 80); e == api.OK && r.Intn(3) > 0 {
		p = q
	}
	db = database(t, s+"th $p |- "+texts[len(texts)-1]+" $= ? $.")
	return db, len(db.Frames) - 1, p
}

// grown returns a random formula, and the proof of it as a tree.
func grown(t *testing.T, r *rand.Rand, size int) (api.Database, int, api.Proof) {
	t.Helper()
	var p api.Proof
	var grow func(size int) string
	grow = func(size int) string {
		x := api.Step{Label: "wn"}
		text := ""
		switch {
		case size < 2:
			x.Label = []string{"wph", "wps", "tru"}[r.Intn(3)]
			text = map[string]string{"wph": "ph", "wps": "ps", "tru": "T."}[x.Label]
		case size == 2 || r.Intn(4) == 0:
			text = "-. " + grow(size-1)
			x.Args = []int{len(p.Steps) - 1}
		default:
			left := 1 + r.Intn(size-2)
			text = "( " + grow(left) + " -> "
			x.Label, x.Args = "wi", []int{len(p.Steps) - 1}
			text += grow(size-1-left) + " )"
			x.Args = append(x.Args, len(p.Steps)-1)
		}
		p.Steps = append(p.Steps, x)
		return text
	}
	text := grow(size)
	db := database(t, logic+"th $p wff "+text+" $= ? $.")
	return db, len(db.Frames) - 1, p
}

// neededModel returns which steps a proof needs.
func neededModel(p api.Proof) map[int]bool {
	l := map[int]bool{}
	var need func(n int)
	need = func(n int) {
		l[n] = true
		for _, a := range p.Steps[n].Args {
			need(a)
		}
	}
	need(len(p.Steps) - 1)
	return l
}

// prunedModel returns a proof with only what it needs.
func prunedModel(p api.Proof) api.Proof {
	needed, place := neededModel(p), map[int]int{}
	var q api.Proof
	for n, x := range p.Steps {
		if !needed[n] {
			continue
		}
		place[n] = len(q.Steps)
		y := api.Step{Label: x.Label}
		for _, a := range x.Args {
			y.Args = append(y.Args, place[a])
		}
		q.Steps = append(q.Steps, y)
	}
	return q
}

// changedModel returns a proof behind a change that holds.
func changedModel(p api.Proof, c Change) api.Proof {
	q := api.Proof{Steps: slices.Clone(p.Steps)}
	if c.Reason == Replaced {
		q.Steps[c.Step] = api.Step{Label: c.Label, Args: c.Args}
		return prunedModel(q)
	}
	for n, x := range q.Steps {
		q.Steps[n].Args = slices.Clone(x.Args)
		for k, a := range x.Args {
			if a == c.Step {
				q.Steps[n].Args[k] = c.Args[0]
			}
		}
	}
	if c.Step == len(q.Steps)-1 {
		q.Steps = q.Steps[:c.Args[0]+1]
	}
	return prunedModel(q)
}

// changesModel returns the good changes that are tried for a step: all Args are looked at.
func changesModel(db api.Database, i int, p api.Proof, step int) []Change {
	texts, _, _ := graph.Texts(db, i, p)
	var firsts []int
	for n := range step {
		isSame := func(text []string) bool { return slices.Equal(text, texts[n]) }
		if slices.IndexFunc(texts, isSame) == n {
			firsts = append(firsts, n)
		}
	}
	var l []Change
	try := func(c Change) {
		c.Step, c.Before, c.Args = step, len(neededModel(p)), slices.Clone(c.Args)
		c.After = len(changedModel(p, c).Steps)
		if c.After < c.Before {
			l = append(l, c)
		}
	}
	for _, n := range firsts {
		if slices.Equal(texts[n], texts[step]) {
			try(Change{Reason: Shared, Args: []int{n}})
		}
	}
	for _, f := range db.Frames[:i] {
		if len(f.Hyps) > 4 {
			continue
		}
		var choose func(args []int)
		choose = func(args []int) {
			if len(args) == len(f.Hyps) {
				text, ok := given(db, i, f.Label, entriesOf(texts, args))
				if ok && slices.Equal(text, texts[step]) {
					try(Change{Reason: Replaced, Label: f.Label, Args: args})
				}
				return
			}
			h := f.Hyps[len(args)]
			for _, n := range firsts {
				if h.Text[0] == texts[n][0] { // others can give no formula
					choose(append(args, n))
				}
			}
		}
		choose(nil)
	}
	return l
}

func sameChange(c, d Change) bool {
	return c.Reason == d.Reason && c.Step == d.Step && c.Label == d.Label && slices.Equal(c.Args, d.Args) && c.Before == d.Before && c.After == d.After
}

func sameProof(p, q api.Proof) bool { return slices.EqualFunc(p.Steps, q.Steps, isSame) }

// P24.1: the changes of random proofs, and what they lead to.
func TestRandomChanges(t *testing.T) {
	r := rand.New(rand.NewSource(24))
	counts := map[int]int{}
	labels := map[string]int{}
	for range 120 {
		db, i, p := random(t, r, 2+r.Intn(16))
		if n := len(neededModel(p)); Size(p) != n {
			t.Fatalf("%v: the size %d, want %d", p, Size(p), n)
		}
		if q, e := Needed(p); e != api.OK || !sameProof(q, prunedModel(p)) {
			t.Fatalf("%v: %v, %d", p, q, e)
		}
		for step := range p.Steps {
			l, e := Changes(db, i, p, step)
			want := changesModel(db, i, p, step)
			if e != api.OK || !slices.EqualFunc(l, want, sameChange) {
				t.Fatalf("%v, step %d: %v, %d, want %v", p, step, l, e, want)
			}
			for _, c := range l {
				counts[c.Reason]++
				labels[c.Label]++
				checkChange(t, db, i, p, c)
			}
		}
	}
	if counts[Shared] < 100 || counts[Replaced] < 100 || len(labels) < 10 {
		t.Errorf("%v, %v", counts, labels)
	}
}

// checkChange checks Apply of a change that holds. P24.2: what it returns is right.
func checkChange(t *testing.T, db api.Database, i int, p api.Proof, c Change) {
	t.Helper()
	q, e := Apply(db, i, p, c)
	if e != api.OK || !sameProof(q, changedModel(p, c)) || len(q.Steps) != c.After || Size(q) != c.After {
		t.Fatalf("%v behind %v: %v, %d", p, c, q, e)
	}
	if _, v, e := graph.Texts(db, i, q); e != api.OK || v != (api.Verdict{}) {
		t.Fatalf("%v behind %v: the verdict %v, %d", p, c, v, e)
	}
	for _, wrong := range []Change{{Before: 1}, {After: 1}, {Before: -1, After: -1}} {
		d := c
		d.Before += wrong.Before
		d.After += wrong.After
		if q, e := Apply(db, i, p, d); e != ErrChange || len(q.Steps) > 0 {
			t.Fatalf("%v behind %v: %v, %d", p, d, q, e)
		}
	}
}

// P24.1: random changes, most of which do not hold.
func TestRandomApply(t *testing.T) {
	r := rand.New(rand.NewSource(25))
	counts := map[api.Errno]int{}
	for range 80 {
		db, i, p := random(t, r, 2+r.Intn(8))
		texts, _, _ := graph.Texts(db, i, p)
		for range 100 {
			c := Change{Reason: 1 + r.Intn(2), Step: r.Intn(len(p.Steps)), Before: Size(p)}
			count := 1
			if c.Reason == Replaced {
				f := db.Frames[r.Intn(len(db.Frames))]
				c.Label = f.Label
				count = len(f.Hyps)
			}
			for range count {
				c.Args = append(c.Args, r.Intn(len(p.Steps)))
			}
			holds := slices.Max(append([]int{0}, c.Args...)) < c.Step || len(c.Args) == 0
			if c.Reason == Shared {
				holds = holds && slices.Equal(texts[c.Args[0]], texts[c.Step])
			} else if holds {
				text, ok := given(db, i, c.Label, entriesOf(texts, c.Args))
				holds = ok && frame.Find(db, c.Label) < i && slices.Equal(text, texts[c.Step])
			}
			want := ErrChange
			if holds {
				c.After = len(changedModel(p, c).Steps)
				if c.After < c.Before {
					want = api.OK
				}
			}
			q, e := Apply(db, i, p, c)
			if e != want || e == api.OK && !sameProof(q, changedModel(p, c)) || e != api.OK && len(q.Steps) > 0 {
				t.Fatalf("%v behind %v: %v, %d, want %d", p, c, q, e, want)
			}
			counts[e]++
		}
	}
	if counts[api.OK] < 50 {
		t.Errorf("%v", counts)
	}
}

// minimizedModel makes the best change again and again.
func minimizedModel(db api.Database, i int, p api.Proof, most int) (api.Proof, []Change) {
	var made []Change
	for len(made) < most {
		var best []Change
		for step := range p.Steps {
			for _, c := range changesModel(db, i, p, step) {
				if len(best) == 0 || c.After < best[0].After {
					best = []Change{c}
				}
			}
		}
		if len(best) == 0 {
			break
		}
		made = append(made, best[0])
		p = changedModel(p, best[0])
	}
	return p, made
}

// P24.1 to P24.4: random proofs are minimized, and P7: the first verifier accepts them.
func TestRandomMinimize(t *testing.T) {
	r := rand.New(rand.NewSource(26))
	longest := 0
	for range 150 {
		make := []func(*testing.T, *rand.Rand, int) (api.Database, int, api.Proof){random, roundabout, grown}[r.Intn(3)]
		db, i, p := make(t, r, 2+r.Intn(25))
		most := []int{-1, 0, 1, 2, 100}[r.Intn(5)]
		q, l, e := Minimize(db, i, p, most)
		want, made := minimizedModel(db, i, p, most)
		if e != api.OK || !sameProof(q, want) || !slices.EqualFunc(l, made, sameChange) {
			t.Fatalf("%v: %v by %v, %d, want %v by %v", p, q, l, e, want, made)
		}
		longest = max(longest, len(l))
		if n, e := Check(db, i, p, q, l); n != len(l) || e != api.OK {
			t.Fatalf("%v: Check: %d, %d", p, n, e)
		}
		words, e := graph.Labels(db, i, q)
		if v, f := verify.Proof(db, i, words); e != api.OK || f != api.OK || v != (api.Verdict{}) {
			t.Fatalf("%v: %v, %d, %d", q, v, e, f)
		}
		if most < 100 {
			continue
		}
		for step := range q.Steps {
			if l, e := Changes(db, i, q, step); e != api.OK || l != nil {
				t.Fatalf("%v: still %v, %d", q, l, e)
			}
		}
		if again, l, e := Minimize(db, i, q, most); e != api.OK || l != nil || !sameProof(again, q) {
			t.Fatalf("%v: again %v by %v, %d", q, again, l, e)
		}
	}
	if longest < 4 {
		t.Errorf("at most %d changes", longest)
	}
}
