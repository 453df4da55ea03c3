package persist

import (
	"math/rand"
	"slices"
	"strconv"
	"testing"

	"apodixis/api"
)

func checkCurrent(t *testing.T, h *History[string], v string, n int) {
	t.Helper()
	if x, i := h.Current(); x != v || i != n {
		t.Fatalf("Current: %q, %d, want %q, %d", x, i, v, n)
	}
}

// P12.1, P12.5: versions, undone and done again, and dropped.
func TestHistory(t *testing.T) {
	h := NewHistory("a")
	checkCurrent(t, h, "a", 0)
	for _, x := range []struct {
		do   string // undo, redo, or the version that is committed
		want api.Errno
		v    string
		n    int
	}{
		{"undo", api.ErrNone, "a", 0}, {"redo", api.ErrNone, "a", 0}, {"b", api.OK, "b", 1}, {"redo", api.ErrNone, "b", 1}, {"c", api.OK, "c", 2}, {"c", api.OK, "c", 3},
		{"undo", api.OK, "c", 2}, {"undo", api.OK, "b", 1}, {"undo", api.OK, "a", 0}, {"undo", api.ErrNone, "a", 0}, {"redo", api.OK, "b", 1}, {"redo", api.OK, "c", 2}, {"redo", api.OK, "c", 3}, {"redo", api.ErrNone, "c", 3},
		{"undo", api.OK, "c", 2}, {"undo", api.OK, "b", 1}, {"d", api.OK, "d", 2}, {"redo", api.ErrNone, "d", 2}, {"undo", api.OK, "b", 1}, {"redo", api.OK, "d", 2}, {"", api.OK, "", 3},
	} {
		var e api.Errno
		switch x.do {
		case "undo":
			e = h.Undo()
		case "redo":
			e = h.Redo()
		default:
			e = h.Commit(x.do)
		}
		if e != x.want {
			t.Errorf("%q: %d, want %d", x.do, e, x.want)
		}
		checkCurrent(t, h, x.v, x.n)
	}
}

// P12.1: the most versions, and one more.
func TestFull(t *testing.T) {
	h := NewHistory("0")
	for i := 1; i < MaxVersions; i++ {
		if e := h.Commit(strconv.Itoa(i)); e != api.OK {
			t.Fatalf("Commit number %d: %d", i, e)
		}
	}
	for range 2 {
		if e := h.Commit("more"); e != api.ErrFull {
			t.Errorf("Commit of one more: %d", e)
		}
		checkCurrent(t, h, "999", 999)
	}
	f := h.Fork()
	if e := f.Commit("more"); e != api.ErrFull {
		t.Errorf("Commit to a full fork: %d", e)
	}
	h.Undo()
	if e := h.Commit("other"); e != api.OK {
		t.Errorf("Commit in the place of the last one: %d", e)
	}
	checkCurrent(t, h, "other", 999)
	checkCurrent(t, f, "999", 999)
	for i := range MaxVersions - 1 {
		if e := h.Undo(); e != api.OK {
			t.Fatalf("Undo number %d: %d", i, e)
		}
	}
	if e := h.Undo(); e != api.ErrNone {
		t.Errorf("Undo of the first version: %d", e)
	}
	checkCurrent(t, h, "0", 0)
}

// P12.1: forks have the versions up to the current one, and go their own ways.
func TestFork(t *testing.T) {
	h := NewHistory("a")
	h.Commit("b")
	h.Commit("c")
	h.Commit("d")
	h.Undo()
	f := h.Fork()
	checkCurrent(t, f, "c", 2)
	if e := f.Redo(); e != api.ErrNone {
		t.Errorf("Redo of a fork: %d", e)
	}
	f.Commit("x")
	h.Redo()
	checkCurrent(t, h, "d", 3)
	checkCurrent(t, f, "x", 3)
	g := f.Fork()
	f.Undo()
	f.Undo()
	f.Commit("y")
	h.Undo()
	h.Undo()
	h.Commit("z")
	checkCurrent(t, g, "x", 3)
	checkCurrent(t, f, "y", 2)
	checkCurrent(t, h, "z", 2)
	for _, v := range []string{"c", "b", "a"} {
		g.Undo()
		if x, _ := g.Current(); x != v {
			t.Errorf("Undo of a fork: %q, want %q", x, v)
		}
	}
}

// P12.1: methods of a nil history, and of one that nobody made.
func TestNilHistory(t *testing.T) {
	var none *History[int]
	for _, h := range []*History[int]{none, {}} {
		if h.Commit(1) != api.ErrArg || h.Undo() != api.ErrArg || h.Redo() != api.ErrArg || h.Fork() != nil {
			t.Error("there is a method that does something")
		}
		if v, n := h.Current(); v != 0 || n != 0 {
			t.Errorf("Current: %d, %d", v, n)
		}
	}
}

// P12.5: random steps, compared with a list of versions.
func TestHistories(t *testing.T) {
	random := rand.New(rand.NewSource(1))
	for range 100 {
		h := NewHistory("first")
		list, at := []string{"first"}, 0
		for n := range 200 {
			var e, want api.Errno
			switch random.Intn(4) {
			case 0, 1:
				v := strconv.Itoa(n)
				e = h.Commit(v)
				at++
				list = append(slices.Clone(list[:at]), v)
			case 2:
				e = h.Undo()
				if at == 0 {
					want = api.ErrNone
				} else {
					at--
				}
			case 3:
				e = h.Redo()
				if at == len(list)-1 {
					want = api.ErrNone
				} else {
					at++
				}
			}
			if e != want {
				t.Fatalf("step %d: %d, want %d", n, e, want)
			}
			checkCurrent(t, h, list[at], at)
			if random.Intn(10) == 0 {
				h.Fork().Commit("lost")
			}
		}
	}
}
