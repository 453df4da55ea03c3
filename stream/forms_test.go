package stream

import (
	"slices"
	"testing"

	"apodixis/api"
	"apodixis/compress"
	frames "apodixis/frame"
	"apodixis/graph"
	"apodixis/layout"
	"apodixis/parallel"
	"apodixis/source"
)

// written is a text with its statements and its verdicts.
type written struct {
	text string
	list []api.Statement
	want []Named
}

// rightTexts returns the texts of makeTexts that are not refused.
func rightTexts() []written {
	var l []written
	for _, text := range makeTexts() {
		want, e := Verify(text)
		if e != api.OK {
			continue
		}
		d, _, _ := layout.Read(text)
		l = append(l, written{text, layout.Statements(d), want})
	}
	return l
}

// says tells whether Verify of a text has given verdicts.
func says(t *testing.T, text string, want []Named) {
	t.Helper()
	if l, e := Verify(text); e != api.OK || !slices.Equal(l, want) {
		t.Fatalf("%q: %v, %d, want %v", text, l, e, want)
	}
}

// P2 of DOC.md: the verdicts are those of any number of goroutines.
func TestGoroutines(t *testing.T) {
	for _, w := range rightTexts() {
		db, _, _ := frames.Database(w.list)
		for _, workers := range []int{1, 2, 5} {
			r, e := parallel.Run(db, parallel.Options{Workers: workers, Budget: -1})
			if e != api.OK || len(r.Results) != len(w.want) {
				t.Fatalf("%d workers: %v, %d, want %v", workers, r, e, w.want)
			}
			for i, x := range r.Results {
				if (Named{db.Frames[x.Frame].Label, x.Verdict}) != w.want[i] {
					t.Fatalf("%d workers: %v, want %v", workers, x, w.want[i])
				}
			}
		}
	}
}

// P3 of DOC.md: a text that is written again, printed, rewrapped, or divided into files has the same verdicts.
func TestTexts(t *testing.T) {
	for _, w := range rightTexts() {
		d, _, _ := layout.Read(w.text)
		if again, e := layout.Write(d); e != api.OK || again != w.text {
			t.Fatalf("%q is written as %q, %d", w.text, again, e)
		}
		for _, width := range []int{0, 20, 79} {
			printed, e := layout.Print(w.list, width)
			wrapped, _, f := layout.Rewrap(w.text, width)
			if e != api.OK || f != api.OK {
				t.Fatalf("%q: %d, %d", w.text, e, f)
			}
			says(t, printed, w.want)
			says(t, wrapped, w.want)
		}
		half := len(w.list) / 2
		for half < len(w.list) && depth(w.list[:half]) > 0 {
			half++
		}
		first, _ := layout.Print(w.list[:half], 79)
		second, _ := layout.Print(w.list[half:], 79)
		u, _, e := source.Read(map[string]string{"main": "$[ first $]\n$[ first $]\n" + second, "first": first}, "main")
		again, _, f := layout.Parse(source.Texts(u))
		printed, _ := layout.Print(again, 79)
		if e != api.OK || f != api.OK {
			t.Fatalf("%q in two files: %d, %d", w.text, e, f)
		}
		says(t, printed, w.want)
	}
}

func depth(l []api.Statement) int {
	n := 0
	for _, s := range l {
		switch s.Kind {
		case api.Open:
			n++
		case api.Close:
			n--
		}
	}
	return n
}

// P4 of DOC.md: a right proof stays right when it is compressed, expanded, shared or written as a normal one.
func TestProofs(t *testing.T) {
	count := 0
	for _, w := range rightTexts() {
		db, _, _ := frames.Database(w.list)
		for _, x := range w.want {
			if x.Verdict.Code != api.OK {
				continue
			}
			i := frames.Find(db, x.Label)
			p, e := graph.Of(db, i)
			if e != api.OK {
				t.Fatalf("%s has no graph: %d", x.Label, e)
			}
			for _, proof := range forms(t, db, i, p) {
				at := slices.IndexFunc(w.list, func(s api.Statement) bool { return s.Label == x.Label })
				other := slices.Clone(w.list)
				other[at].Proof = proof
				printed, e := layout.Print(other, 79)
				if e != api.OK {
					t.Fatalf("%q: %d", proof, e)
				}
				says(t, printed, w.want)
				count++
			}
		}
	}
	if count < 1000 {
		t.Errorf("there are %d proofs", count)
	}
}

// forms returns a proof in all ways in which it can be written.
func forms(t *testing.T, db api.Database, i int, p api.Proof) [][]string {
	t.Helper()
	var l [][]string
	shared, e := graph.Share(p)
	ordered, f := graph.Ordered(p)
	expanded, g := graph.Expand(p, api.MaxSteps)
	if e != api.OK || f != api.OK || g != api.OK {
		t.Fatalf("%v: %d, %d, %d", p, e, f, g)
	}
	for _, q := range []api.Proof{p, shared, ordered, expanded} {
		normal, e := graph.Labels(db, i, q)
		compressed, f := compress.Proof(db, i, q)
		if e != api.OK || f != api.OK || !graph.Same(p, q) {
			t.Fatalf("%v: %d, %d", q, e, f)
		}
		l = append(l, normal, compressed)
	}
	return l
}
