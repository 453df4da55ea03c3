package unify

import "apodixis/api"

// sets are disjoint sets of numbers.
type sets[N interface{ ~int }] struct{ parents []N }

// grow adds sets with one number each, up to n numbers.
func (s *sets[N]) grow(n int) {
	for len(s.parents) < n {
		s.parents = append(s.parents, N(len(s.parents)))
	}
}

// find returns the number that stands for a set. Paths are shortened on the way.
func (s *sets[N]) find(x N) N {
	for s.parents[x] != x {
		s.parents[x] = s.parents[s.parents[x]]
		x = s.parents[x]
	}
	return x
}

// join makes one set of two, for which the number of the first one stands.
func (s *sets[N]) join(x, y N) {
	x, y = s.find(x), s.find(y)
	s.parents[y] = x
}

// cell is a list of kids: its first number, and the number of the list behind it; the list 0 is empty.
type cell struct{ first, rest int }

// shape is a subtree: its label, and the number of the list of its kids.
type shape struct {
	label string
	kids  int
}

// term is a subtree whose kids are numbers.
type term struct {
	label  string
	kids   []int
	isWork bool
}

// terms are numbered subtrees, of which equal ones have one number.
type terms struct {
	list   []term
	works  []int // the work variables, in the order in which they occur first
	shapes map[shape]int
	cells  map[cell]int
}

// number returns the number of a tree.
func (l *terms) number(t api.Tree) int {
	var kids []int
	for _, k := range t.Kids {
		kids = append(kids, l.number(k))
	}
	x := shape{t.Label, 0}
	for _, k := range kids {
		c := cell{k, x.kids}
		if l.cells[c] == 0 {
			l.cells[c] = len(l.cells) + 1
		}
		x.kids = l.cells[c]
	}
	n, ok := l.shapes[x]
	if ok {
		return n
	}
	n = len(l.list)
	_, _, isWork := IsWork(t.Label)
	l.shapes[x] = n
	l.list = append(l.list, term{t.Label, kids, isWork})
	if isWork {
		l.works = append(l.works, n)
	}
	return n
}

// unifier divides subtrees into classes.
type unifier struct {
	terms   *terms
	pairs   [][2]int // those that are to be in one class
	classes sets[int]
	values  []int // of each class the number of a subtree that is no work variable, or of its first work variable
}

func newUnifier() *unifier {
	return &unifier{terms: &terms{shapes: map[shape]int{}, cells: map[cell]int{}}}
}

// solve returns the substitution by which all pairs become equal.
func (u *unifier) solve() ([]Sub, api.Errno) {
	if !u.unite() {
		return nil, ErrClash
	}
	order, ok := u.order()
	if !ok {
		return nil, ErrOccurs
	}
	if e := u.measure(order); e != api.OK {
		return nil, e
	}
	var l []Sub
	for _, w := range u.terms.works {
		if value := u.value(w); value != w {
			l = append(l, Sub{u.terms.list[w].label, u.tree(value)})
		}
	}
	return l, api.OK
}

// value returns the number of the subtree that stands for the class of another one.
func (u *unifier) value(n int) int { return u.values[u.classes.find(n)] }

// unite makes the classes, unless two labels differ.
func (u *unifier) unite() bool {
	u.classes.grow(len(u.terms.list))
	for n := range u.terms.list {
		u.values = append(u.values, n)
	}
	for len(u.pairs) > 0 {
		last := len(u.pairs) - 1
		p := u.pairs[last]
		u.pairs = u.pairs[:last]
		if !u.join(u.classes.find(p[0]), u.classes.find(p[1])) {
			return false
		}
	}
	return true
}

// join makes one class of two, unless their labels differ. The one whose value remains is the first one.
func (u *unifier) join(x, y int) bool {
	if x == y {
		return true
	}
	if u.isBehind(u.values[x], u.values[y]) {
		x, y = y, x
	}
	a, b := u.terms.list[u.values[x]], u.terms.list[u.values[y]]
	u.classes.join(x, y)
	if b.isWork {
		return true
	}
	if a.label != b.label {
		return false
	}
	for i := range a.kids {
		u.pairs = append(u.pairs, [2]int{a.kids[i], b.kids[i]})
	}
	return true
}

// isBehind reports whether a value is worse than another one: a work variable is worse than what is none, and the later one than the earlier one.
func (u *unifier) isBehind(m, n int) bool {
	a, b := u.terms.list[m], u.terms.list[n]
	if a.isWork != b.isWork {
		return a.isWork
	}
	return m > n
}

// order returns the classes, each behind those of the kids of its value; false, if one is reached from itself. It does not call itself, as classes may be reached in more steps than trees are deep.
func (u *unifier) order() ([]int, bool) {
	const isOpen, isDone = 1, 2
	type visit struct{ class, kid int }
	state := make([]int, len(u.terms.list))
	var order []int
	isCircle := false
walking:
	for n := range u.terms.list {
		stack := []visit{{u.classes.find(n), 0}}
		for len(stack) > 0 {
			top := &stack[len(stack)-1]
			x := top.class
			kids := u.terms.list[u.values[x]].kids
			switch {
			case state[x] == isDone:
				stack = stack[:len(stack)-1]
			case top.kid == 0 && state[x] == isOpen:
				isCircle = true
				break walking
			case top.kid == len(kids):
				state[x] = isDone
				order = append(order, x)
			default:
				state[x] = isOpen
				top.kid++
				stack = append(stack, visit{u.classes.find(kids[top.kid-1]), 0})
			}
		}
	}
	return order, !isCircle
}

// measure returns the error of the sizes of the values of work variables.
func (u *unifier) measure(order []int) api.Errno {
	nodes, depth := make([]int, len(u.terms.list)), make([]int, len(u.terms.list))
	for _, x := range order {
		nodes[x], depth[x] = 1, 1
		for _, k := range u.terms.list[u.values[x]].kids {
			k = u.classes.find(k)
			nodes[x] = min(nodes[x]+nodes[k], api.MaxNodes+1)
			depth[x] = max(depth[x], depth[k]+1)
		}
	}
	isDeep := false
	for _, w := range u.terms.works {
		x := u.classes.find(w)
		if nodes[x] > api.MaxNodes {
			return api.ErrLarge
		}
		isDeep = isDeep || depth[x] > api.MaxDepth
	}
	if isDeep {
		return api.ErrDepth
	}
	return api.OK
}

// tree returns the tree of a value.
func (u *unifier) tree(value int) api.Tree {
	x := u.terms.list[value]
	t := api.Tree{Label: x.label}
	for _, k := range x.kids {
		t.Kids = append(t.Kids, u.tree(u.value(k)))
	}
	return t
}
