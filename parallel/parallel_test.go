package parallel

import (
	"slices"
	"strings"
	"testing"

	"apodixis/api"
)

// database returns a database of assertions without hypotheses: an axiom for an empty word, a theorem for the words of a proof ("." for none).
func database(proofs ...string) api.Database {
	db := api.Database{Constants: []string{"|-", "x"}}
	for i, s := range proofs {
		f := api.Frame{Label: "abcdefghijklmnopqrstuvwxyz"[i : i+1], Theorem: s != "", Text: []string{"|-", "x"}}
		if s != "." {
			f.Proof = strings.Fields(s)
		}
		db.Frames = append(db.Frames, f)
	}
	return db
}

// work has an axiom, and theorems of the costs 5, 3, 4, 0, 1 and 2, of which only the last but one holds.
func work() api.Database {
	return database("", "( a ) AZBBBB", "a a a", "( a ) AZBBB", ".", "a", "a a")
}

// wrong is a database with an error of frame.Check.
func wrong() api.Database {
	db := work()
	db.Constants = append(db.Constants, "x")
	return db
}

func sameReport(a, b Report) bool {
	return slices.Equal(a.Results, b.Results) && a.Used == b.Used && a.Failed == b.Failed && a.Next == b.Next
}

func isZero(r Report) bool { return r.Results == nil && sameReport(r, Report{}) }

// P11.1: costs of proofs of all forms.
func TestCost(t *testing.T) {
	for proof, want := range map[string]int{
		".":              0,
		"a":              1,
		"a a ? no":       4,
		"? ) ABC":        3,
		"A":              1,
		"(":              0,
		"( a ABC":        0,
		"( )":            0,
		"( ABC ) ":       0,
		"( a b ) ABCZ":   3,
		"( ) AT?Z":       3,
		"( ) UVWXYZ":     0,
		"( ) UA YT":      2,
		"( ) AB CD E":    5,
		"( ) A ) B ( C":  3,
		"( ) abc-1._":    0,
		"( A ) ( B ) A?": 3,
		"( ) " + strings.Repeat("ABCDEFGHIJKLMNOPQRST", 100): 2000,
	} {
		db := database("", proof)
		if n, e := Cost(db, 1); n != want || e != api.OK {
			t.Errorf("Cost of %.40q: %d, %d, want %d", proof, n, e, want)
		}
	}
	db := work()
	for i, want := range map[int]api.Errno{-1: api.ErrRange, 7: api.ErrRange, 1 << 62: api.ErrRange, -1 << 63: api.ErrRange, 0: api.ErrNone, 1: api.OK, 6: api.OK} {
		if n, e := Cost(db, i); e != want || e != api.OK && n != 0 {
			t.Errorf("Cost of %d: %d, %d, want %d", i, n, e, want)
		}
		if n, e := Cost(wrong(), i); n != 0 || e != api.ErrTwice {
			t.Errorf("Cost of %d of a wrong database: %d, %d", i, n, e)
		}
	}
	if n, e := Cost(api.Database{}, 0); n != 0 || e != api.ErrRange {
		t.Errorf("Cost of nothing: %d, %d", n, e)
	}
}

// P11.1: reports of runs with all options.
func TestRun(t *testing.T) {
	all := []Result{
		{1, api.Verdict{Code: api.ErrStack, Step: 5}, 5}, {2, api.Verdict{Code: api.ErrStack, Step: 3}, 3}, {3, api.Verdict{Code: api.ErrStack, Step: 4}, 4},
		{4, api.Verdict{Code: api.ErrStack, Step: 0}, 0}, {5, api.Verdict{}, 1}, {6, api.Verdict{Code: api.ErrStack, Step: 2}, 2},
	}
	db := work()
	for _, x := range []struct {
		budget, failures int
		next             int
	}{
		{-1, 0, 6}, {0, 0, 0}, {4, 0, 0}, {5, 0, 1}, {7, 0, 1}, {8, 0, 2}, {11, 0, 2}, {12, 0, 4}, {13, 0, 5}, {14, 0, 5}, {15, 0, 6}, {1 << 62, 0, 6},
		{-1, 1, 1}, {-1, 2, 2}, {-1, 3, 3}, {-1, 4, 4}, {-1, 5, 6}, {-1, 6, 6}, {-1, 1 << 62, 6}, {8, 1, 1}, {8, 2, 2}, {8, 3, 2}, {0, 1, 0}, {13, 5, 5},
	} {
		for _, workers := range []int{1, 2, 3, 5, 6, 7, MaxWorkers} {
			r, e := Run(db, Options{workers, x.budget, x.failures})
			used, failed := 0, 0
			for _, y := range all[:x.next] {
				used += y.Steps
				if y.Verdict.Code != api.OK {
					failed++
				}
			}
			if want := (Report{all[:x.next], used, failed, x.next}); e != api.OK || !sameReport(r, want) {
				t.Errorf("Run with %d workers, %d, %d: %v, %d, want %v", workers, x.budget, x.failures, r, e, want)
			}
		}
	}
	for _, db := range []api.Database{{}, database(""), database("", "", "")} {
		for _, o := range []Options{{1, -1, 0}, {MaxWorkers, 0, 1}} {
			if r, e := Run(db, o); e != api.OK || !isZero(r) {
				t.Errorf("Run without theorems: %v, %d", r, e)
			}
		}
	}
}

// P11.1: the examples of the chapter.
func TestExamples(t *testing.T) {
	// A rule of one premise makes right proofs of any length.
	rule := api.Frame{Label: "i", Hyps: []api.Hyp{{Label: "e", Text: []string{"|-", "x"}}}, Text: []string{"|-", "x"}}
	db := database("", "a i i i i", "a a a", "a i i i")
	db.Frames = slices.Insert(db.Frames, 1, rule)
	want := Report{[]Result{{2, api.Verdict{}, 5}, {3, api.Verdict{Code: api.ErrStack, Step: 3}, 3}}, 8, 1, 2}
	for _, o := range []Options{{3, 8, 0}, {3, -1, 1}, {1, 8, 1}, {64, 11, 0}} {
		if r, e := Run(db, o); e != api.OK || !sameReport(r, want) {
			t.Errorf("Run with %v: %v, %d, want %v", o, r, e, want)
		}
	}
	if l, e := Deal(db, 2); e != api.OK || len(l) != 2 || !slices.Equal(l[0], []int{2}) || !slices.Equal(l[1], []int{4, 3}) {
		t.Errorf("Deal: %v, %d", l, e)
	}
}

// P11.1: runs over given theorems.
func TestSome(t *testing.T) {
	db := database("", "a a a", "a", "a a", "", "?")
	results := map[int]Result{
		1: {1, api.Verdict{Code: api.ErrStack, Step: 3}, 3}, 2: {2, api.Verdict{}, 1}, 3: {3, api.Verdict{Code: api.ErrStack, Step: 2}, 2}, 5: {5, api.Verdict{Code: api.ErrUnknown}, 1},
	}
	for _, x := range []struct {
		frames           []int
		budget, failures int
		next             int
	}{
		{nil, -1, 0, 0}, {[]int{}, 0, 0, 0}, {[]int{2}, -1, 0, 1}, {[]int{5, 3, 2, 1}, -1, 0, 4}, {[]int{2, 2, 2, 2}, -1, 0, 4}, {[]int{2, 2, 2, 2}, 3, 0, 3}, {[]int{2, 2, 2, 2}, 3, 1, 3},
		{[]int{3, 2, 3, 2, 3}, -1, 2, 3}, {[]int{3, 2, 3, 2, 3}, 4, 2, 2}, {[]int{3, 2, 3, 2, 3}, 5, 2, 3}, {[]int{3, 2, 3, 2, 3}, -1, 4, 5}, {[]int{1, 2}, 2, 0, 0}, {[]int{2, 1, 2}, 2, 0, 1},
		{slices.Repeat([]int{2, 5}, 200), -1, 150, 300},
	} {
		for _, workers := range []int{1, 2, 3, 4, 5, MaxWorkers} {
			var want Report
			for _, i := range x.frames[:x.next] {
				y := results[i]
				want.Results = append(want.Results, y)
				want.Used += y.Steps
				if y.Verdict.Code != api.OK {
					want.Failed++
				}
				want.Next++
			}
			given := slices.Clone(x.frames)
			if r, e := Some(db, given, Options{workers, x.budget, x.failures}); e != api.OK || !sameReport(r, want) {
				t.Errorf("Some of %v with %d workers, %d, %d: %v, %d, want %v", x.frames, workers, x.budget, x.failures, r, e, want)
			}
			if !slices.Equal(given, x.frames) {
				t.Errorf("Some has changed %v to %v", x.frames, given)
			}
		}
	}
	for _, x := range []struct {
		frames []int
		want   api.Errno
	}{
		{[]int{6}, api.ErrRange}, {[]int{-1}, api.ErrRange}, {[]int{0}, api.ErrNone}, {[]int{4}, api.ErrNone}, {[]int{2, 6, 0}, api.ErrRange}, {[]int{2, 0, 6}, api.ErrNone}, {[]int{1, 2, 3, 1 << 40}, api.ErrRange},
	} {
		for _, o := range []Options{{1, -1, 0}, {4, 0, 0}, {MaxWorkers, -1, 1}} { // also of theorems behind the end of the run
			if r, e := Some(db, x.frames, o); e != x.want || !isZero(r) {
				t.Errorf("Some of %v: %v, %d, want %d", x.frames, r, e, x.want)
			}
		}
	}
}

// P11.1: the errors of a database come first, then those of options, then those of frames.
func TestErrors(t *testing.T) {
	type call struct {
		name string
		e    api.Errno
		zero bool
	}
	calls := func(db api.Database, frames []int, o Options) []call {
		r, e := Run(db, o)
		s, f := Some(db, frames, o)
		j, g := Start(db, o)
		return []call{{"Run", e, isZero(r)}, {"Some", f, isZero(s)}, {"Start", g, j == nil}}
	}
	for _, o := range []Options{{0, -1, 0}, {-1, -1, 0}, {MaxWorkers + 1, -1, 0}, {1, -2, 0}, {1, 0, -1}, {-1 << 63, -1 << 63, -1 << 63}, {1 << 62, 0, 0}} {
		for _, frames := range [][]int{nil, {1}, {0}, {99}} {
			for _, x := range calls(work(), frames, o) {
				if x.e != api.ErrArg || !x.zero {
					t.Errorf("%s with %v: %d", x.name, o, x.e)
				}
			}
			for _, x := range calls(wrong(), frames, o) {
				if x.e != api.ErrTwice || !x.zero {
					t.Errorf("%s of a wrong database with %v: %d", x.name, o, x.e)
				}
			}
		}
	}
	for _, o := range []Options{{1, -1, 0}, {MaxWorkers, 0, 0}, {1, 1 << 62, 1 << 62}} {
		for _, x := range calls(work(), []int{1}, o) {
			if x.e != api.OK {
				t.Errorf("%s with %v: %d", x.name, o, x.e)
			}
		}
		for _, x := range calls(wrong(), []int{99}, o) {
			if x.e != api.ErrTwice || !x.zero {
				t.Errorf("%s of a wrong database: %d", x.name, x.e)
			}
		}
	}
}

// P11.1, P11.4: the shares of workers.
func TestDeal(t *testing.T) {
	db := database("", "a a a", "a a a", "", "a a a a a", "a", ".", "a a", "a a a")
	for workers, want := range map[int][][]int{
		1: {{4, 1, 2, 8, 7, 5, 6}},
		2: {{4, 8, 5}, {1, 2, 7, 6}},
		3: {{4, 5}, {1, 8}, {2, 7, 6}},
		4: {{4}, {1, 7}, {2, 5}, {8, 6}},
		7: {{4}, {1}, {2}, {8}, {7}, {5}, {6}},
		9: {{4}, {1}, {2}, {8}, {7}, {5}, {6}, nil, nil},
	} {
		if l, e := Deal(db, workers); e != api.OK || !slices.EqualFunc(l, want, slices.Equal[[]int]) {
			t.Errorf("Deal among %d: %v, %d, want %v", workers, l, e, want)
		}
	}
	for _, workers := range []int{0, -1, MaxWorkers + 1, 1 << 62, -1 << 63} {
		if l, e := Deal(db, workers); e != api.ErrArg || l != nil {
			t.Errorf("Deal among %d: %v, %d", workers, l, e)
		}
		if l, e := Deal(wrong(), workers); e != api.ErrTwice || l != nil {
			t.Errorf("Deal of a wrong database among %d: %v, %d", workers, l, e)
		}
	}
	for _, workers := range []int{1, MaxWorkers} {
		for _, db := range []api.Database{{}, database("", "")} {
			if l, e := Deal(db, workers); e != api.OK || len(l) != workers || slices.ContainsFunc(l, func(s []int) bool { return len(s) > 0 }) {
				t.Errorf("Deal of nothing among %d: %v, %d", workers, l, e)
			}
		}
	}
}
