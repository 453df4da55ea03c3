package persist

import (
	"cmp"
	"math"
	"math/rand"
	"slices"
	"strings"
	"testing"
)

// entry is a key with its value.
type entry[K cmp.Ordered] struct {
	key   K
	value int
}

// contents returns what All yields.
func contents[K cmp.Ordered](t Tree[K, int]) []entry[K] {
	var l []entry[K]
	for k, v := range t.All() {
		l = append(l, entry[K]{k, v})
	}
	return l
}

// check compares a tree with its entries in all functions that look at it.
func check[K cmp.Ordered](t *testing.T, tree Tree[K, int], want []entry[K]) {
	t.Helper()
	if l := contents(tree); !slices.Equal(l, want) {
		t.Fatalf("the contents are %v, want %v", l, want)
	}
	if n := tree.Size(); n != len(want) {
		t.Fatalf("Size: %d, want %d", n, len(want))
	}
	if d := depth(t, tree.root); tree.Depth() != d || float64(d) > 2*math.Log2(float64(len(want)+1)) {
		t.Fatalf("Depth: %d, want %d, of %d keys", tree.Depth(), d, len(want))
	}
	for i, x := range want {
		if k, v, ok := tree.At(i); !ok || k != x.key || v != x.value {
			t.Fatalf("At(%d): %v, %d, %t, want %v", i, k, v, ok, x)
		}
		if v, ok := tree.Get(x.key); !ok || v != x.value {
			t.Fatalf("Get(%v): %d, %t, want %d", x.key, v, ok, x.value)
		}
		if n := tree.Rank(x.key); n != i {
			t.Fatalf("Rank(%v): %d, want %d", x.key, n, i)
		}
	}
	var zero K
	for _, i := range []int{-1, len(want), len(want) + 1, math.MinInt, math.MaxInt} {
		if k, v, ok := tree.At(i); ok || k != zero || v != 0 {
			t.Fatalf("At(%d): %v, %d, %t", i, k, v, ok)
		}
	}
}

// depth returns the number of nodes on the longest path from a node, and checks that its sides are balanced.
func depth[K cmp.Ordered, V any](t *testing.T, n *node[K, V]) int {
	t.Helper()
	if n == nil {
		return 0
	}
	l, r := depth(t, n.left), depth(t, n.right)
	if l-r > 1 || r-l > 1 {
		t.Fatalf("the sides of a node have the depths %d and %d", l, r)
	}
	return max(l, r) + 1
}

// P12.1: the example of the chapter, and the empty tree.
func TestTree(t *testing.T) {
	var empty Tree[string, int]
	check(t, empty, nil)
	check(t, empty.Delete("a"), nil)
	l, g := empty.Split("a")
	check(t, l, nil)
	check(t, g, nil)
	if v, ok := empty.Get("a"); ok || v != 0 || empty.Rank("a") != 0 || empty.Depth() != 0 {
		t.Errorf("Get of the empty tree: %d, %t", v, ok)
	}
	both := empty.Put("b", 2).Put("a", 1)
	check(t, both, []entry[string]{{"a", 1}, {"b", 2}})
	if n := both.Rank("b"); n != 1 {
		t.Errorf("Rank(b): %d", n)
	}
	l, g = both.Split("a")
	check(t, l, nil)
	check(t, g, []entry[string]{{"b", 2}})
	if v, ok := both.Get("ab"); ok || v != 0 {
		t.Errorf("Get(ab): %d, %t", v, ok)
	}
	for key, want := range map[string]int{"": 0, "a": 0, "a0": 1, "b": 1, "bb": 2} {
		if n := both.Rank(key); n != want {
			t.Errorf("Rank(%q): %d, want %d", key, n, want)
		}
	}
	check(t, both.Put("a", 5), []entry[string]{{"a", 5}, {"b", 2}})
	check(t, both.Put("", 0), []entry[string]{{"", 0}, {"a", 1}, {"b", 2}})
	check(t, both.Delete("c"), []entry[string]{{"a", 1}, {"b", 2}})
	check(t, both.Delete("b"), []entry[string]{{"a", 1}})
	check(t, both, []entry[string]{{"a", 1}, {"b", 2}})
}

// P12.1: which trees can be joined.
func TestJoin(t *testing.T) {
	var empty Tree[int, int]
	low, high := empty.Put(1, 10).Put(3, 30), empty.Put(4, 40).Put(6, 60)
	for _, x := range []struct {
		a, b Tree[int, int]
		want []entry[int]
		ok   bool
	}{
		{empty, empty, nil, true}, {low, empty, []entry[int]{{1, 10}, {3, 30}}, true}, {empty, low, []entry[int]{{1, 10}, {3, 30}}, true},
		{low, high, []entry[int]{{1, 10}, {3, 30}, {4, 40}, {6, 60}}, true}, {high, low, nil, false}, {low, low, nil, false},
		{low, high.Put(3, 0), nil, false}, {low.Put(4, 0), high, nil, false}, {low.Put(5, 0), high, nil, false}, {low, high.Put(2, 0), nil, false}, {low, high.Put(0, 0), nil, false},
		{low, empty.Put(2, 0), nil, false}, {empty.Put(2, 20), low, nil, false}, {empty.Put(2, 20), high, []entry[int]{{2, 20}, {4, 40}, {6, 60}}, true},
	} {
		j, ok := x.a.Join(x.b)
		if ok != x.ok {
			t.Errorf("Join of %v and %v: %t", contents(x.a), contents(x.b), ok)
		}
		check(t, j, x.want)
	}
}

// P12.1: iteration ends when it is told to, and can be done again.
func TestAll(t *testing.T) {
	var tree Tree[int, int]
	for i := range 50 {
		tree = tree.Put(i*7%50, i)
	}
	all := tree.All()
	for n := range 52 {
		var keys []int
		all(func(k, v int) bool {
			keys = append(keys, k)
			return len(keys) < n
		})
		if want := max(1, min(n, 50)); len(keys) != want || keys[want-1] != want-1 {
			t.Errorf("until %d: %v", n, keys)
		}
	}
	for i := range tree.All() {
		for k := range tree.All() {
			if k > i {
				break
			}
		}
	}
}

// P12.1: keys are compared by cmp.Compare, also those that are no numbers.
func TestFloats(t *testing.T) {
	var tree Tree[float64, int]
	nan := math.NaN()
	tree = tree.Put(1, 1).Put(nan, 2).Put(math.Inf(-1), 3).Put(nan, 4).Put(math.Inf(1), 5).Put(math.Copysign(0, -1), 6).Put(0, 7)
	if tree.Size() != 5 {
		t.Fatalf("Size: %d", tree.Size())
	}
	if k, v, ok := tree.At(0); !math.IsNaN(k) || v != 4 || !ok {
		t.Errorf("At(0): %v, %d, %t", k, v, ok)
	}
	if v, ok := tree.Get(nan); v != 4 || !ok || tree.Rank(nan) != 0 || tree.Rank(math.Inf(-1)) != 1 {
		t.Errorf("Get of no number: %d, %t", v, ok)
	}
	if v, ok := tree.Get(math.Copysign(0, -1)); v != 7 || !ok {
		t.Errorf("Get(-0): %d, %t", v, ok)
	}
	check(t, tree.Delete(nan), []entry[float64]{{math.Inf(-1), 3}, {0, 7}, {1, 1}, {math.Inf(1), 5}})
	if _, ok := tree.Join(tree); ok {
		t.Error("a tree was joined to itself")
	}
	l, g := tree.Split(nan)
	if _, ok := g.Join(l.Put(nan, 0)); ok || l.Size() != 0 || g.Size() != 4 {
		t.Error("no number was joined behind all")
	}
}

// P12.1, P12.3: trees that grow in order, in the reverse order, and shrink at one side.
func TestOrders(t *testing.T) {
	const n = 3000
	var up, down, inward Tree[int, int]
	for i := range n {
		up, down = up.Put(i, i), down.Put(n-1-i, n-1-i)
		if i%2 == 0 {
			inward = inward.Put(i/2, i/2)
		} else {
			inward = inward.Put(n-1-i/2, n-1-i/2)
		}
	}
	var want []entry[int]
	for i := range n {
		want = append(want, entry[int]{i, i})
	}
	check(t, up, want)
	check(t, down, want)
	check(t, inward, want)
	for i := range n - 10 {
		up, down = up.Delete(i), down.Delete(n-1-i)
		if i%97 == 0 {
			check(t, up, want[i+1:])
			check(t, down, want[:n-1-i])
		}
	}
}

// apply does to sorted entries what Put or Delete does to a tree.
func apply[K cmp.Ordered](l []entry[K], k K, v int, remove bool) []entry[K] {
	at, found := slices.BinarySearchFunc(l, k, func(x entry[K], k K) int { return cmp.Compare(x.key, k) })
	l = slices.Clone(l)
	switch {
	case remove && found:
		return slices.Delete(l, at, at+1)
	case remove:
		return l
	case found:
		l[at].value = v
		return l
	}
	return slices.Insert(l, at, entry[K]{k, v})
}

// version is a tree, and what it has to contain.
type version[K cmp.Ordered] struct {
	tree Tree[K, int]
	want []entry[K]
}

// P12.1 to P12.4: random operations on random versions; all versions stay.
func TestVersions(t *testing.T) {
	random := rand.New(rand.NewSource(1))
	for range 40 {
		versions := []version[int]{{}}
		limit := 1 + random.Intn(150)
		for n := range 300 {
			x := versions[random.Intn(len(versions))]
			if random.Intn(3) > 0 {
				x = versions[len(versions)-1]
			}
			k := random.Intn(limit)
			switch random.Intn(6) {
			case 0, 1, 2:
				versions = append(versions, version[int]{x.tree.Put(k, n), apply(x.want, k, n, false)})
			case 3:
				versions = append(versions, version[int]{x.tree.Delete(k), apply(x.want, k, 0, true)})
			case 4:
				versions = append(versions, parts(t, x, k)...)
			case 5:
				versions = append(versions, joined(t, x, versions[random.Intn(len(versions))], k))
			}
		}
		for _, x := range versions {
			check(t, x.tree, x.want)
		}
	}
}

// parts returns both parts of a split tree, and the tree that they are together.
func parts(t *testing.T, x version[int], k int) []version[int] {
	t.Helper()
	less, greater := x.tree.Split(k)
	at, found := slices.BinarySearchFunc(x.want, k, func(y entry[int], k int) int { return cmp.Compare(y.key, k) })
	behind := at
	if found {
		behind++
	}
	if n := x.tree.Rank(k); n != at {
		t.Fatalf("Rank(%d): %d, want %d", k, n, at)
	}
	both, ok := less.Join(greater)
	if !ok {
		t.Fatal("the parts of a tree are not joined")
	}
	return []version[int]{{less, x.want[:at:at]}, {greater, x.want[behind:]}, {both, apply(x.want, k, 0, true)}}
}

// joined returns the join of a part of a tree with a part of another one.
func joined(t *testing.T, x, y version[int], k int) version[int] {
	t.Helper()
	less, _ := x.tree.Split(k)
	_, greater := y.tree.Split(k)
	both, ok := less.Join(greater)
	if !ok {
		t.Fatal("parts of two trees are not joined")
	}
	want := slices.Concat(contents(less), contents(greater))
	if less.Size() > 0 && greater.Size() > 0 {
		if z, ok := greater.Join(less); ok || z.Size() != 0 {
			t.Fatalf("the greater part was joined with the lesser one: %d, %t", z.Size(), ok)
		}
	}
	return version[int]{both, want}
}

// P12.1: keys of other types, and values that are lists.
func TestStrings(t *testing.T) {
	var tree Tree[string, []string]
	words := strings.Fields("the quick brown fox jumps over the lazy dog and the cat")
	for _, w := range words {
		l, _ := tree.Get(w)
		tree = tree.Put(w, append(slices.Clone(l), w))
	}
	slices.Sort(words)
	words = slices.Compact(words)
	for i, w := range words {
		k, v, ok := tree.At(i)
		if k != w || !ok || len(v) == 0 || len(v) > 1 != (w == "the") {
			t.Errorf("At(%d): %q, %v, %t", i, k, v, ok)
		}
	}
	var bytes Tree[byte, int]
	bytes = bytes.Put(255, 1).Put(0, 2).Put(128, 3)
	check(t, bytes, []entry[byte]{{0, 2}, {128, 3}, {255, 1}})
}
