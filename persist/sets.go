package persist

import "apodixis/api"

// Sets are disjoint sets of the numbers below some number; unions can be undone.
type Sets struct {
	elements []element
	unions   []union // those that were not undone, in order
}

// element is a number in the tree of its set; the root of a tree, which is its own parent, knows the set.
type element struct {
	parent      int
	size, least int
}

// union is what its undoing needs: the root that got a parent, and the least element that this parent had.
type union struct{ root, least int }

// NewSets returns n sets with one element each.
func NewSets(n int) (*Sets, api.Errno) {
	if n < 0 || n > MaxElements {
		return nil, api.ErrRange
	}
	s := &Sets{elements: make([]element, n)}
	for a := range n {
		s.elements[a] = element{parent: a, size: 1, least: a}
	}
	return s, api.OK
}

// check returns the error of an element.
func (s *Sets) check(a int) api.Errno {
	if s == nil {
		return api.ErrArg
	}
	if a < 0 || a >= len(s.elements) {
		return api.ErrRange
	}
	return api.OK
}

// root returns the root of the tree of an element. Paths are not shortened, as unions are undone; the smaller set below the greater one keeps them short.
func (s *Sets) root(a int) int {
	for s.elements[a].parent != a {
		a = s.elements[a].parent
	}
	return a
}

// Find returns the least element of the set of an element.
func (s *Sets) Find(a int) (int, api.Errno) {
	if e := s.check(a); e != api.OK {
		return 0, e
	}
	return s.elements[s.root(a)].least, api.OK
}

// Union makes the sets of two elements one; false, if they were one.
func (s *Sets) Union(a, b int) (bool, api.Errno) {
	if e := s.check(a); e != api.OK {
		return false, e
	}
	if e := s.check(b); e != api.OK {
		return false, e
	}
	upper, lower := s.root(a), s.root(b)
	if upper == lower {
		return false, api.OK
	}
	if s.elements[upper].size < s.elements[lower].size {
		upper, lower = lower, upper
	}
	u, l := &s.elements[upper], &s.elements[lower]
	s.unions = append(s.unions, union{root: lower, least: u.least})
	l.parent = upper
	u.size += l.size
	u.least = min(u.least, l.least)
	return true, api.OK
}

// Count returns the number of sets.
func (s *Sets) Count() int {
	if s == nil {
		return 0
	}
	return len(s.elements) - len(s.unions)
}

// Mark returns the number of unions so far, for Undo.
func (s *Sets) Mark() int {
	if s == nil {
		return 0
	}
	return len(s.unions)
}

// Undo undoes all unions behind a mark.
func (s *Sets) Undo(mark int) api.Errno {
	if s == nil {
		return api.ErrArg
	}
	if mark < 0 || mark > len(s.unions) {
		return api.ErrRange
	}
	for last := len(s.unions) - 1; last >= mark; last-- {
		x := s.unions[last]
		l := &s.elements[x.root]
		u := &s.elements[l.parent]
		l.parent = x.root
		u.size -= l.size
		u.least = x.least
	}
	s.unions = s.unions[:mark]
	return api.OK
}

// Classes returns all sets, by their least elements.
func (s *Sets) Classes() [][]int {
	if s == nil {
		return nil
	}
	var l [][]int
	places := map[int]int{} // of the sets, by their roots
	for a := range s.elements {
		root := s.root(a)
		at, known := places[root]
		if !known {
			at = len(l)
			places[root] = at
			l = append(l, nil)
		}
		l[at] = append(l[at], a)
	}
	return l
}
