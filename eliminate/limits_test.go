package eliminate

import (
	"strings"
	"testing"

	"apodixis/api"
	"apodixis/compress"
	"apodixis/frame"
	"apodixis/graph"
)

// kept has what keeps a proof in another one that does not need it.
const kept = "tt $a |- T. $. ${ k1 $e |- ph $. k2 $e |- ps $. keep $a |- ph $. $} "

// check checks what Proof and Database return for the theorem th, and returns its number of steps as a normal proof, if there is one.
func check(t *testing.T, name string, db api.Database, want api.Errno) int {
	t.Helper()
	i, theorem := frame.Find(db, "df"), frame.Find(db, "th")
	p, e := Proof(db, rules, i, theorem)
	if e != want || e != api.OK && len(p.Steps) > 0 {
		t.Errorf("%s: Proof: %d, want %d", name, e, want)
	}
	out, e := Database(db, rules, i)
	if e != want {
		t.Errorf("%s: Database: %d, want %d", name, e, want)
	}
	if want != api.OK {
		return 0
	}
	checkVerdicts(t, out)
	_, steps, _ := graph.Size(p)
	if f := out.Frames[frame.Find(out, "th")]; len(f.Proof) != steps {
		t.Errorf("%s: %d steps, and %d words", name, steps, len(f.Proof))
	}
	return steps
}

// P20.1: formulas of steps with 2000 symbols, and with 2001.
func TestLongFormulas(t *testing.T) {
	const df = "df $a |- ( fst ph ps <-> ( ph -> ph ) ) $. "
	doubled := func(n int) string { return strings.Repeat("fst ", n) + "ph" + strings.Repeat(" ph", n) }
	x := "-. -. " + doubled(2) // 15 symbols without the definition
	for n := 4; n <= 8; n++ {
		x = "( " + doubled(n) + " -> " + x + " )"
	}
	for formula, want := range map[string]api.Errno{x: api.OK, "-. " + x: api.ErrLarge} {
		words := strings.Join(labels(parsed(t, df, formula)), " ")
		s := "( fst ps " + formula + " <-> fst ps " + formula + " )"
		db := with(t, df+"th $p |- "+s+" $= wps "+words+" wfst biid $.")
		check(t, formula, db, want)
	}
}

// parsed returns the tree of a formula of logic with a definition.
func parsed(t *testing.T, s, formula string) api.Tree {
	t.Helper()
	m := &maker{t: t, db: with(t, s), trees: map[string]api.Tree{}}
	return m.tree(strings.Fields("|- " + formula))
}

// P20.1: normal proofs of 2000 steps, and of 2001, of which the graph has far fewer.
func TestLongProofs(t *testing.T) {
	for _, x := range []struct {
		parts, sum int // of the numbers of definienda
		want       api.Errno
	}{{7, 325, api.OK}, {8, 324, api.ErrLarge}} {
		words := []string{"tt"}
		for n := range x.parts {
			k := (x.sum + n) / x.parts
			y := append([]string{"wph"}, strings.Fields(strings.Repeat("wdup ", k))...)
			next := append([]string{"tru"}, y...)
			next = append(append(next, y...), "wb")
			words = append(next, words...)
			words = append(append(words, y...), "biid", "keep")
		}
		db := with(t, "df $a |- ( dup ph <-> -. -. ph ) $. "+kept+"th $p |- T. $= "+strings.Join(words, " ")+" $.")
		if steps := check(t, "long", db, x.want); x.want == api.OK && steps != api.MaxSteps {
			t.Errorf("%d steps", steps)
		}
	}
}

// P20.1: a graph of less than 2000 steps that becomes one of more.
func TestLongGraphs(t *testing.T) {
	for _, x := range []struct {
		length int
		want   api.Errno
	}{{20, api.ErrLarge}, {45, api.ErrLarge}, {2, api.OK}} {
		db := with(t, "df $a |- ( dup ph <-> -. -. ph ) $. any $a |- ph $. "+kept+"th $p |- T. $= ? $.")
		p := api.Proof{Steps: []api.Step{{Label: "tru"}, {Label: "tt"}}}
		add := func(label string, args ...int) int {
			p.Steps = append(p.Steps, api.Step{Label: label, Args: args})
			return len(p.Steps) - 1
		}
		last := 1
		leaves := []int{add("wph"), add("wps"), add("wch"), 0, add("wno")}
		for _, a := range leaves {
			for _, b := range leaves {
				y := add("wi", a, b)
				for range x.length {
					y = add("wdup", y)
				}
				last = add("keep", 0, y, last, add("any", y))
			}
		}
		i := frame.Find(db, "th")
		var e api.Errno
		if db.Frames[i].Proof, e = compress.Proof(db, i, p); e != api.OK {
			t.Fatal(e)
		}
		if _, v, e := graph.Texts(db, i, p); e != api.OK || v.Code != api.OK {
			t.Fatalf("%v, %d", v, e)
		}
		check(t, "a graph", db, x.want)
	}
}

// P20.1: 40000 steps that come about, and one more; what is not needed is left out.
func TestManySteps(t *testing.T) {
	for _, x := range []struct {
		right, parts, sum int // the signs of the right side, and of the parts the numbers of definienda
		want              api.Errno
	}{{98, 17, 210, api.OK}, {97, 19, 213, api.ErrLarge}} {
		words := []string{"tt"}
		for n := range x.parts {
			k := (x.sum + n) / x.parts
			c := append(strings.Fields(strings.Repeat("wph ", k)), strings.Fields(strings.Repeat("wfst ", k-1))...) // a part of one definiendum less
			next := append([]string{"tru", "wph"}, c...)
			next = append(next, "wfst")
			words = append(next, words...)
			words = append(append(append(words, "wph"), c...), "ax", "keep")
		}
		s := "df $a |- ( fst ph ps <-> " + strings.Repeat("-. ", x.right) + "ph ) $. ax $a |- fst ph ps $. "
		db := with(t, s+kept+"th $p |- T. $= "+strings.Join(words, " ")+" $.")
		if steps := check(t, "many", db, x.want); x.want == api.OK && steps != 1+x.parts*(x.right+5) {
			t.Errorf("%d steps", steps)
		}
	}
}

// kept2 returns a proof of T. with a step of 2 n + 5 symbols behind the typecode, and of which nothing is needed.
func kept2(n int) string {
	x := "wph " + strings.Repeat("wn ", n)
	return "tru " + x + x + "wb tt " + x + "biid keep $."
}

// P20.1: the errors of steps, and of the assertions that they name, in Proof alone.
func TestErrorsOfProofs(t *testing.T) {
	const df = "df $a |- ( fst ph ps <-> -. -. ph ) $. "
	const half = "tt $a |- ( T. -> ph ) $. "
	deep := strings.Repeat("fst ", 50) + "ch" + strings.Repeat(" ph", 50)
	words := "wch " + strings.Repeat("wph wfst ", 50)
	for name, x := range map[string]struct {
		s    string
		want api.Errno
	}{
		"a step without a tree":               {df + "a $a |- or $. ${ e $e |- or $. b $a |- ps $. $} th $p |- ps $= wps a b $.", 190},
		"a step of no sort":                   {df + "a $a T. ph $. ${ e $e T. ph $. b $a |- ps $. $} th $p |- ps $= wph wps wph a b $.", api.ErrType},
		"a step with two trees":               {df + "a $a wff T. $. th $p |- ( ps <-> ps ) $= wps biid $. ", api.OK},
		"a needed step with two trees":        {df + "a $a wff T. $. th $p |- ( T. <-> T. ) $= tru biid $. ", 191},
		"a step of 199 symbols":               {df + kept + "th $p |- T. $= " + kept2(97), api.OK},
		"a step of more than 200 symbols":     {df + kept + "th $p |- T. $= " + kept2(98), api.ErrSize},
		"a step that is too deep":             {df + half + "th $p |- ( T. -> " + deep + " ) $= " + words + " tt $.", api.ErrDepth},
		"an assertion that is too deep":       {df + "a $a |- fst " + deep + " ph $. th $p |- fst " + deep + " ph $= wph wch a $.", api.ErrDepth},
		"another theorem with a wrong proof":  {df + half + "bad $p |- ps $= wps $. th $p |- ps $= wps bad $.", api.OK},
		"another assertion without a formula": {df + "a $a |- or $. th $p |- ( ps <-> ps ) $= wps biid $.", api.OK},
		"a theorem with a wrong proof":        {df + "a $a |- or $. th $p |- ( ps <-> ps ) $= wph biid $.", api.ErrState},
	} {
		db := with(t, x.s)
		p, e := Proof(db, rules, frame.Find(db, "df"), frame.Find(db, "th"))
		if e != x.want || (e == api.OK) != (len(p.Steps) > 0) {
			t.Errorf("%s: %v, %d, want %d", name, p, e, x.want)
		}
	}
	// An assertion whose formula becomes too long, while that of the step does not: it may have more symbols.
	const long = "df $a |- ( fst ph ps <-> ( ph -> ph ) ) $. "
	for n, want := range map[int]api.Errno{195: api.OK, 196: api.ErrLarge} {
		fst := strings.Repeat("fst ", 5) + "T." + strings.Repeat(" ph", 5) // 125 symbols
		s := "( " + fst + " -> " + strings.Repeat("-. ", n-125) + "ps )"
		db := with(t, long+"a $a |- "+s+" $. th $p |- "+s+" $= wph wps a $.")
		if p, e := Proof(db, rules, frame.Find(db, "df"), len(db.Frames)-1); e != want || e == api.OK && len(p.Steps) != 2 {
			t.Errorf("%d: %v, %d, want %d", n, p, e, want)
		}
	}
}
