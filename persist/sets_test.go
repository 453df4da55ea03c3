package persist

import (
	"math"
	"math/rand"
	"slices"
	"testing"

	"apodixis/api"
)

func newSets(t *testing.T, n int) *Sets {
	t.Helper()
	s, e := NewSets(n)
	if e != api.OK || s == nil {
		t.Fatalf("NewSets(%d): %v, %d", n, s, e)
	}
	return s
}

// checkSets compares sets with the least elements of each number's set.
func checkSets(t *testing.T, s *Sets, least []int, mark int) {
	t.Helper()
	var classes [][]int
	for a, l := range least {
		if x, e := s.Find(a); x != l || e != api.OK {
			t.Fatalf("Find(%d): %d, %d, want %d", a, x, e, l)
		}
		if a == l {
			var c []int
			for b, m := range least {
				if m == a {
					c = append(c, b)
				}
			}
			classes = append(classes, c)
		}
	}
	if l := s.Classes(); !slices.EqualFunc(l, classes, slices.Equal[[]int]) {
		t.Fatalf("Classes: %v, want %v", l, classes)
	}
	if s.Count() != len(classes) || s.Mark() != mark {
		t.Fatalf("Count: %d, want %d, Mark: %d, want %d", s.Count(), len(classes), s.Mark(), mark)
	}
}

// P12.1, P12.5: the example of the chapter, and what unions return.
func TestSets(t *testing.T) {
	s := newSets(t, 4)
	checkSets(t, s, []int{0, 1, 2, 3}, 0)
	for _, x := range []struct {
		a, b  int
		ok    bool
		least []int
		mark  int
	}{
		{3, 1, true, []int{0, 1, 2, 1}, 1}, {1, 3, false, []int{0, 1, 2, 1}, 1}, {2, 2, false, []int{0, 1, 2, 1}, 1}, {2, 3, true, []int{0, 1, 1, 1}, 2}, {2, 1, false, []int{0, 1, 1, 1}, 2}, {2, 0, true, []int{0, 0, 0, 0}, 3}, {0, 3, false, []int{0, 0, 0, 0}, 3},
	} {
		if ok, e := s.Union(x.a, x.b); ok != x.ok || e != api.OK {
			t.Errorf("Union(%d, %d): %t, %d", x.a, x.b, ok, e)
		}
		checkSets(t, s, x.least, x.mark)
	}
	for _, mark := range []int{-1, 4, math.MinInt, math.MaxInt} {
		if e := s.Undo(mark); e != api.ErrRange {
			t.Errorf("Undo(%d): %d", mark, e)
		}
	}
	if e := s.Undo(3); e != api.OK {
		t.Errorf("Undo of nothing: %d", e)
	}
	checkSets(t, s, []int{0, 0, 0, 0}, 3)
	if e := s.Undo(1); e != api.OK {
		t.Errorf("Undo(1): %d", e)
	}
	checkSets(t, s, []int{0, 1, 2, 1}, 1)
	if e := s.Undo(2); e != api.ErrRange {
		t.Errorf("Undo of what was undone: %d", e)
	}
	if e := s.Undo(0); e != api.OK {
		t.Errorf("Undo(0): %d", e)
	}
	checkSets(t, s, []int{0, 1, 2, 3}, 0)
}

// P12.1: numbers out of their ranges.
func TestRanges(t *testing.T) {
	for _, n := range []int{-1, MaxElements + 1, math.MinInt, math.MaxInt} {
		if s, e := NewSets(n); s != nil || e != api.ErrRange {
			t.Errorf("NewSets(%d): %v, %d", n, s, e)
		}
	}
	for _, n := range []int{0, 1, 5, MaxElements} {
		s := newSets(t, n)
		for _, a := range []int{-1, n, n + 1, math.MinInt, math.MaxInt} {
			if x, e := s.Find(a); x != 0 || e != api.ErrRange {
				t.Errorf("Find(%d) of %d: %d, %d", a, n, x, e)
			}
			for _, b := range []int{0, -1, n} {
				if ok, e := s.Union(a, b); ok || e != api.ErrRange {
					t.Errorf("Union(%d, %d) of %d: %t, %d", a, b, n, ok, e)
				}
				if ok, e := s.Union(b, a); ok || e != api.ErrRange {
					t.Errorf("Union(%d, %d) of %d: %t, %d", b, a, n, ok, e)
				}
			}
		}
		if s.Count() != n || s.Mark() != 0 || len(s.Classes()) != n {
			t.Errorf("%d sets: Count %d, Mark %d", n, s.Count(), s.Mark())
		}
	}
}

// P12.1: methods of nil.
func TestNilSets(t *testing.T) {
	var s *Sets
	if x, e := s.Find(0); x != 0 || e != api.ErrArg {
		t.Errorf("Find: %d, %d", x, e)
	}
	if ok, e := s.Union(0, 0); ok || e != api.ErrArg {
		t.Errorf("Union: %t, %d", ok, e)
	}
	if e := s.Undo(0); e != api.ErrArg {
		t.Errorf("Undo: %d", e)
	}
	if s.Count() != 0 || s.Mark() != 0 || s.Classes() != nil {
		t.Error("nil has sets")
	}
}

// P12.5: random unions and undoings, compared with lists of least elements.
func TestUnions(t *testing.T) {
	random := rand.New(rand.NewSource(1))
	for range 60 {
		n := 1 + random.Intn(40)
		s := newSets(t, n)
		states := [][]int{make([]int, n)}
		for a := range n {
			states[0][a] = a
		}
		for range 120 {
			least := states[len(states)-1]
			if random.Intn(6) == 0 {
				mark := random.Intn(len(states))
				if e := s.Undo(mark); e != api.OK {
					t.Fatalf("Undo(%d): %d", mark, e)
				}
				states = states[:mark+1]
			} else {
				a, b := random.Intn(n), random.Intn(n)
				x, y := least[a], least[b]
				if ok, e := s.Union(a, b); ok != (x != y) || e != api.OK {
					t.Fatalf("Union(%d, %d): %t, %d", a, b, ok, e)
				}
				if x != y {
					next := slices.Clone(least)
					for c := range next {
						if next[c] == max(x, y) {
							next[c] = min(x, y)
						}
					}
					states = append(states, next)
				}
			}
			checkSets(t, s, states[len(states)-1], len(states)-1)
		}
	}
}

// P12.1: the most elements, all united in the order that would make the longest paths.
func TestMany(t *testing.T) {
	s := newSets(t, MaxElements)
	for a := MaxElements - 1; a > 0; a-- {
		if ok, e := s.Union(a, a-1); !ok || e != api.OK {
			t.Fatalf("Union(%d, %d): %t, %d", a, a-1, ok, e)
		}
	}
	l := s.Classes()
	if x, _ := s.Find(MaxElements - 1); x != 0 || s.Count() != 1 || s.Mark() != MaxElements-1 || len(l) != 1 || len(l[0]) != MaxElements || !slices.IsSorted(l[0]) {
		t.Errorf("Find: %d, Count %d, Mark %d", x, s.Count(), s.Mark())
	}
	l[0][0] = 7
	if x := s.Classes(); x[0][0] != 0 {
		t.Error("Classes gives its own memory away")
	}
	s.Undo(0)
	if s.Count() != MaxElements || len(s.Classes()) != MaxElements {
		t.Errorf("Count behind Undo: %d", s.Count())
	}
}
