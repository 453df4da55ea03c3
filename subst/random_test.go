package subst

import (
	"math/rand"
	"slices"
	"sort"
	"testing"

	"apodixis/api"
)

var letters = []string{"x", "y", "z", "ph", "ps", "(", ")", "->", ""}

// variablesOf has those of letters that are variables in these tests.
var variablesOf = []string{"ps", "x", "y", "z", "ph"}

func randomText(r *rand.Rand, most int) []string {
	var l []string
	for range r.Intn(most + 1) {
		l = append(l, letters[r.Intn(len(letters))])
	}
	return l
}

func randomBinds(r *rand.Rand, most int) []api.Bind {
	var l []api.Bind
	for range r.Intn(most + 1) {
		l = append(l, api.Bind{Var: letters[r.Intn(len(letters))], Text: randomText(r, 3)})
	}
	return l
}

// rightBinds returns bindings without an error by Check.
func rightBinds(r *rand.Rand, most int) []api.Bind {
	for {
		if l := randomBinds(r, most); Check(l) == api.OK {
			return l
		}
	}
}

func randomPairs(r *rand.Rand, most int) []api.Pair {
	var l []api.Pair
	for range r.Intn(most + 1) {
		l = append(l, api.Pair{A: letters[r.Intn(len(letters))], B: letters[r.Intn(len(letters))]})
	}
	return l
}

// image is the image of a symbol, as the document tells it.
func image(s string, l []api.Bind) []string {
	for _, b := range l {
		if b.Var == s {
			return b.Text
		}
	}
	return []string{s}
}

func applied(text []string, l []api.Bind) []string {
	var result []string
	for _, s := range text {
		result = append(result, image(s, l)...)
	}
	return result
}

func first(text []string, variables []string) []string {
	var l []string
	for i, s := range text {
		if slices.Contains(variables, s) && !slices.Contains(text[:i], s) {
			l = append(l, s)
		}
	}
	return l
}

func arranged(x, y string) api.Pair {
	if x > y {
		x, y = y, x
	}
	return api.Pair{A: x, B: y}
}

// modelled returns what pairs require, in the order of the document, with equal variables and repetitions.
func modelled(l []api.Bind, pairs []api.Pair, variables []string) []api.Pair {
	var required []api.Pair
	for _, p := range pairs {
		for _, x := range first(image(p.A, l), variables) {
			for _, y := range first(image(p.B, l), variables) {
				required = append(required, arranged(x, y))
			}
		}
	}
	return required
}

func sortedModel(l []api.Pair) []api.Pair {
	set := map[api.Pair]bool{}
	for _, p := range l {
		set[arranged(p.A, p.B)] = true
	}
	var sorted []api.Pair
	for p := range set {
		sorted = append(sorted, p)
	}
	sort.Slice(sorted, func(i, j int) bool {
		p, q := sorted[i], sorted[j]
		return p.A < q.A || p.A == q.A && p.B < q.B
	})
	return sorted
}

// P6.1: all functions against the document's text, for any bindings.
func TestModel(t *testing.T) {
	r := rand.New(rand.NewSource(6))
	for range 5000 {
		text, l, variables := randomText(r, 6), randomBinds(r, 5), randomText(r, 5)
		want := applied(text, l)
		if got := Apply(text, l); !slices.Equal(got, want) {
			t.Fatalf("Apply of %q by %q: %q", text, l, got)
		}
		other := randomText(r, 3)
		if got := Fits(text, l, other); got != slices.Equal(other, want) {
			t.Fatalf("Fits of %q by %q to %q: %t", text, l, other, got)
		}
		if got := Vars(text, variables); !slices.Equal(got, first(text, variables)) {
			t.Fatalf("Vars of %q among %q: %q", text, variables, got)
		}
		p, wide := randomPairs(r, 4), randomPairs(r, 20)
		if got := Sorted(p); !slices.Equal(got, sortedModel(p)) {
			t.Fatalf("Sorted of %q: %q", p, got)
		}
		required := modelled(l, p, variables)
		isEqual := func(p api.Pair) bool { return p.A == p.B }
		needed := slices.DeleteFunc(sortedModel(required), isEqual)
		if got, ok := Apart(l, p, variables); !slices.Equal(got, needed) || ok == slices.ContainsFunc(required, isEqual) {
			t.Fatalf("Apart of %q by %q among %q: %q, %t", p, l, variables, got, ok)
		}
		permitted := sortedModel(wide)
		at := slices.IndexFunc(required, func(p api.Pair) bool { return isEqual(p) || !slices.Contains(permitted, p) })
		got, ok := Broken(l, p, variables, wide)
		if ok != (at >= 0) || ok && got != required[at] || !ok && got != (api.Pair{}) {
			t.Fatalf("Broken of %q by %q among %q in %q: %q, %t", p, l, variables, wide, got, ok)
		}
	}
}

// P6.2: Apply by Compose is both in turn, and Compose is associative.
func TestComposition(t *testing.T) {
	r := rand.New(rand.NewSource(62))
	for range 3000 {
		a, b, c := rightBinds(r, 4), rightBinds(r, 4), rightBinds(r, 4)
		ab, e := Compose(a, b)
		text := randomText(r, 6)
		if e != api.OK || !slices.Equal(Apply(text, ab), Apply(Apply(text, a), b)) {
			t.Fatalf("%q and %q: %q, %d", a, b, ab, e)
		}
		bc, _ := Compose(b, c)
		left, e := Compose(ab, c)
		right, f := Compose(a, bc)
		if e != api.OK || f != api.OK || written(left) != written(right) {
			t.Fatalf("%q, %q and %q: %q and %q", a, b, c, left, right)
		}
	}
}

// P6.3: what leaves a formula as it is, and formulas one behind the other.
func TestSymbols(t *testing.T) {
	r := rand.New(rand.NewSource(63))
	for range 2000 {
		text, other, l := randomText(r, 6), randomText(r, 6), randomBinds(r, 4)
		apart := slices.DeleteFunc(slices.Clone(l), func(b api.Bind) bool { return slices.Contains(text, b.Var) })
		if !slices.Equal(Apply(text, nil), text) || !slices.Equal(Apply(text, apart), text) {
			t.Fatalf("%q by %q changes", text, apart)
		}
		both := Apply(slices.Concat(text, other), l)
		if !slices.Equal(both, slices.Concat(Apply(text, l), Apply(other, l))) {
			t.Fatalf("%q and %q by %q: %q", text, other, l, both)
		}
	}
}

// P6.4: the variables of an image, and an exchange that is done twice.
func TestVariables(t *testing.T) {
	r := rand.New(rand.NewSource(64))
	for range 2000 {
		text, l := randomText(r, 6), randomBinds(r, 4)
		var joined []string
		for _, s := range text {
			joined = append(joined, Vars(image(s, l), variablesOf)...)
		}
		if got := Vars(Apply(text, l), variablesOf); !slices.Equal(got, first(joined, variablesOf)) {
			t.Fatalf("the variables of %q by %q: %q", text, l, got)
		}
		x, y := variablesOf[r.Intn(5)], variablesOf[r.Intn(5)]
		swap := []api.Bind{{Var: x, Text: []string{y}}, {Var: y, Text: []string{x}}}
		if got := Apply(Apply(text, swap), swap); !slices.Equal(got, text) {
			t.Fatalf("%q with %s and %s exchanged twice: %q", text, x, y, got)
		}
	}
}

// P6.5: Apart of a composition, and Broken by Apart.
func TestDisjointness(t *testing.T) {
	r := rand.New(rand.NewSource(65))
	both := 0
	for range 20000 {
		a, b, p := rightBinds(r, 4), rightBinds(r, 4), randomPairs(r, 2)
		variables := slices.Clone(letters) // all of them are listed
		c, _ := Compose(a, b)
		first, ok := Apart(a, p, variables)
		second, also := Apart(b, first, variables)
		if got, possible := Apart(c, p, variables); ok && also && !(possible && slices.Equal(got, second)) {
			t.Fatalf("%q by %q and %q: %q, %t, want %q", p, a, b, got, possible, second)
		} else if ok && also && len(second) > 0 {
			both++
		}
		wide := randomPairs(r, 30)
		among := !slices.ContainsFunc(first, func(p api.Pair) bool { return !slices.Contains(Sorted(wide), p) })
		if _, broken := Broken(a, p, variables, wide); broken == (ok && among) {
			t.Fatalf("%q by %q in %q: broken %t", p, a, wide, broken)
		}
	}
	if both < 100 {
		t.Errorf("only %d compositions require something", both)
	}
}

// P6.1: no argument is changed, nor what lies behind a list's end, and what is returned is new.
func TestMemory(t *testing.T) {
	text := append(make([]string, 0, 9), "x", "y")
	l := append(make([]api.Bind, 0, 9), api.Bind{Var: "x", Text: append(make([]string, 0, 9), "a", "b")})
	m := append(make([]api.Bind, 0, 9), api.Bind{Var: "y", Text: append(make([]string, 0, 9), "c")})
	p := append(make([]api.Pair, 0, 9), api.Pair{A: "y", B: "x"}, api.Pair{A: "b", B: "a"})
	for range 2 {
		result := Apply(text, l)
		result[0], result[2] = "changed", "changed"
		c, _ := Compose(l, m)
		for _, b := range c {
			b.Text[0] = "changed"
			_ = append(b.Text, "changed")
		}
		Sorted(p)[0].A = "changed"
		apart, _ := Apart(nil, p, []string{"x", "y"})
		apart[0].A = "changed"
		Vars(text, text)[0] = "changed"
	}
	rest := text[:9]
	if !slices.Equal(rest[:3], []string{"x", "y", ""}) || written(l[:2]) != "x=a b, =" || written(m[:2]) != "y=c, =" || p[0] != (api.Pair{A: "y", B: "x"}) || p[:3][2] != (api.Pair{}) || l[0].Text[:3][2] != "" || m[0].Text[:2][1] != "" {
		t.Errorf("arguments changed: %q, %q, %q, %q", rest, l, m, p)
	}
}
