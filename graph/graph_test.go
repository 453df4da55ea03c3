package graph

import (
	"math/rand"
	"slices"
	"strconv"
	"strings"
	"testing"

	"apodixis/api"
)

// proof returns the proof that "a; b 0 0; c 1" writes.
func proof(s string) api.Proof {
	var p api.Proof
	for _, part := range strings.Split(s, ";") {
		l := strings.Fields(part)
		x := api.Step{Label: l[0]}
		for _, a := range l[1:] {
			n, _ := strconv.Atoi(a)
			x.Args = append(x.Args, n)
		}
		p.Steps = append(p.Steps, x)
	}
	return p
}

func same(p, q api.Proof) bool {
	return slices.EqualFunc(p.Steps, q.Steps, func(x, y api.Step) bool {
		return x.Label == y.Label && slices.Equal(x.Args, y.Args)
	})
}

// chain returns a proof of n steps, each one but the first with as many Args, which are the step before it.
func chain(n, args int) api.Proof {
	p := proof("a")
	for len(p.Steps) < n {
		p.Steps = append(p.Steps, api.Step{Label: "b", Args: slices.Repeat([]int{len(p.Steps) - 1}, args)})
	}
	return p
}

// wide returns a proof of n steps without Args, of which the last one needs the first most ones.
func wide(n, most int) api.Proof {
	var p api.Proof
	for i := range n - 1 {
		p.Steps = append(p.Steps, api.Step{Label: strconv.Itoa(i)})
	}
	x := api.Step{Label: "x"}
	for i := range most {
		x.Args = append(x.Args, i)
	}
	p.Steps = append(p.Steps, x)
	return p
}

// P9.1: the error of the form, step by step, is told by all functions ahead of their own ones.
func TestForm(t *testing.T) {
	beyond := func(p api.Proof, args ...int) api.Proof {
		p.Steps = append(p.Steps, api.Step{Label: "x", Args: args})
		return p
	}
	for name, x := range map[string]struct {
		p    api.Proof
		want api.Errno
	}{
		"one step":                     {proof("a"), api.OK},
		"no steps":                     {api.Proof{}, api.ErrSize},
		"no steps in a list":           {api.Proof{Steps: []api.Step{}}, api.ErrSize},
		"the most steps":               {chain(api.MaxSteps, 1), api.OK},
		"one step too many":            {chain(api.MaxSteps+1, 1), api.ErrSize},
		"too many, and a wrong one":    {beyond(chain(api.MaxSteps, 1), -1), api.ErrSize},
		"the most Args":                {wide(50, api.MaxHyps), api.OK},
		"an Arg too many":              {wide(50, api.MaxHyps+1), api.ErrSize},
		"too many Args, all of a step": {beyond(proof("a"), slices.Repeat([]int{0}, api.MaxHyps+1)...), api.ErrSize},
		"too many Args, none right":    {beyond(proof("a"), slices.Repeat([]int{-1}, api.MaxHyps+1)...), api.ErrSize},
		"a wrong step ahead of that":   {beyond(proof("a; b 1"), slices.Repeat([]int{0}, api.MaxHyps+1)...), api.ErrRange},
		"an Arg of its own":            {proof("a; b 0; c 2"), api.ErrRange},
		"an Arg of a later step":       {proof("a; b 2; c 0"), api.ErrRange},
		"the first step has one":       {proof("a 0"), api.ErrRange},
		"an Arg below 0":               {proof("a; b -1"), api.ErrRange},
		"one that is not needed":       {proof("a; b 1; a"), api.ErrRange},
		"an Arg far beyond":            {beyond(proof("a"), 1<<63-1), api.ErrRange},
		"an Arg far below":             {beyond(proof("a"), -1<<63), api.ErrRange},
		"any label":                    {api.Proof{Steps: []api.Step{{Label: "\n"}, {Label: "", Args: []int{0}}}}, api.OK},
	} {
		right := proof("a; b 0")
		empty := func(l []api.Step) bool { return l == nil }
		if got, e := Ordered(x.p); e != x.want || empty(got.Steps) != (e != api.OK) {
			t.Errorf("%s: Ordered: %d", name, e)
		}
		if got, e := Share(x.p); e != x.want || empty(got.Steps) != (e != api.OK) {
			t.Errorf("%s: Share: %d", name, e)
		}
		if got, e := Expand(x.p, api.MaxSteps); e != x.want || empty(got.Steps) != (e != api.OK) {
			t.Errorf("%s: Expand: %d", name, e)
		}
		if n, m, e := Size(x.p); e != x.want || (n == 0) != (e != api.OK) || (m == 0) != (e != api.OK) {
			t.Errorf("%s: Size: %d, %d, %d", name, n, m, e)
		}
		if got := Same(x.p, x.p); got != (x.want == api.OK) {
			t.Errorf("%s: Same: %t", name, got)
		}
		if Same(x.p, right) || Same(right, x.p) {
			t.Errorf("%s is the same as another one", name)
		}
		if got := Names(x.p); (got == nil) != (x.want != api.OK) {
			t.Errorf("%s: Names: %q", name, got)
		}
		if got, e := Graft(x.p, 0, proof("a")); e != x.want || empty(got.Steps) != (e != api.OK) {
			t.Errorf("%s: Graft: %d", name, e)
		}
		if got, e := Graft(right, 1, x.p); e != x.want || empty(got.Steps) != (e != api.OK) {
			t.Errorf("%s: Graft of it: %d", name, e)
		}
		if x.want != api.OK {
			if _, e := Expand(x.p, 0); e != x.want {
				t.Errorf("%s: Expand to nothing: %d", name, e)
			}
			if _, e := Graft(right, 9, x.p); e != x.want {
				t.Errorf("%s: Graft of it nowhere: %d", name, e)
			}
			if _, e := Graft(x.p, 0, api.Proof{}); e != x.want {
				t.Errorf("%s: Graft of no steps: %d", name, e)
			}
		}
	}
}

// P9.1: what the functions of graphs return.
func TestGraphs(t *testing.T) {
	for _, x := range []struct {
		p, ordered, shared, expanded, names string
	}{
		{"a", "a", "a", "a", "a"},
		{"a; b", "b", "b", "b", "b"},
		{"a; b 0 0; b 1 1", "a; b 0 0; b 1 1", "a; b 0 0; b 1 1", "a; a; b 0 1; a; a; b 3 4; b 2 5", "a b"},
		{"h; h; k; a 0 2", "h; k; a 0 1", "h; k; a 0 1", "h; k; a 0 1", "a h k"},
		{"a; c; b 1 0", "c; a; b 0 1", "c; a; b 0 1", "c; a; b 0 1", "a b c"},
		{"a; a; b 1 0", "a; a; b 0 1", "a; b 0 0", "a; a; b 0 1", "a b"},
		{"a; b 0; c; b 0; d 3 2 1", "a; b 0; c; b 0; d 1 2 3", "a; b 0; c; d 1 2 1", "a; b 0; c; a; b 3; d 1 2 4", "a b c d"},
		{"a; b; f 0 1; f 1 0; a; f 4 1; g 5 3 2", "a; b; f 0 1; a; f 1 3; f 3 1; g 2 4 5", "a; b; f 0 1; f 1 0; g 2 3 2", "a; b; f 0 1; b; a; f 3 4; a; b; f 6 7; g 2 5 8", "a b f g"},
		{"z; b 0; a 1; b", "b", "b", "b", "b"},
		{"a; a 0; a 0 0; b 1 2", "a; a 0; a 0 0; b 1 2", "a; a 0; a 0 0; b 1 2", "a; a 0; a; a; a 2 3; b 1 4", "a b"},
	} {
		p := proof(x.p)
		if got, e := Ordered(p); e != api.OK || !same(got, proof(x.ordered)) {
			t.Errorf("Ordered of %q: %v, %d", x.p, got, e)
		}
		if got, e := Share(p); e != api.OK || !same(got, proof(x.shared)) {
			t.Errorf("Share of %q: %v, %d", x.p, got, e)
		}
		size := len(proof(x.expanded).Steps)
		for _, most := range []int{size, size + 1, 1<<63 - 1} {
			if got, e := Expand(p, most); e != api.OK || !same(got, proof(x.expanded)) {
				t.Errorf("Expand of %q to %d: %v, %d", x.p, most, got, e)
			}
		}
		want := api.ErrLarge
		if size == 1 {
			want = api.ErrArg
		}
		if got, e := Expand(p, size-1); e != want || got.Steps != nil {
			t.Errorf("Expand of %q to one less: %v, %d", x.p, got, e)
		}
		if n, m, e := Size(p); e != api.OK || n != len(proof(x.ordered).Steps) || m != size {
			t.Errorf("Size of %q: %d, %d, %d", x.p, n, m, e)
		}
		if got := Names(p); strings.Join(got, " ") != x.names {
			t.Errorf("Names of %q: %q", x.p, got)
		}
	}
	for _, most := range []int{0, -1, -1 << 63} {
		if got, e := Expand(proof("a; b 0"), most); e != api.ErrArg || got.Steps != nil {
			t.Errorf("Expand to %d: %v, %d", most, got, e)
		}
	}
}

// P9.1: labels and Args that could be taken for others.
func TestShareNames(t *testing.T) {
	p := api.Proof{Steps: []api.Step{{Label: "a"}, {Label: "a 0"}, {Label: "a", Args: []int{0}}, {Label: ""}, {Label: " ", Args: []int{3}}, {Label: "", Args: []int{3, 3}}}}
	for i := range 10 {
		p.Steps = append(p.Steps, api.Step{Label: strconv.Itoa(i)})
	}
	p.Steps = append(p.Steps, api.Step{Label: "c", Args: []int{1, 11}}, api.Step{Label: "c", Args: []int{11, 1}}, api.Step{Label: "c", Args: []int{1, 1, 1}})
	all := api.Step{Label: "all"}
	for i := range p.Steps {
		all.Args = append(all.Args, i)
	}
	p.Steps = append(p.Steps, all)
	if got, e := Share(p); e != api.OK || !same(got, p) {
		t.Errorf("Share: %v, %d", got, e)
	}
}

// P9.1: limits of sizes, which grow beyond all bounds.
func TestSizes(t *testing.T) {
	for _, x := range []struct {
		p               api.Proof
		steps, expanded int
		e               api.Errno // of Expand to MaxSteps and more
	}{
		{chain(10, 2), 10, 1<<10 - 1, api.OK},
		{chain(11, 2), 11, 1<<11 - 1, api.ErrLarge},
		{chain(29, 2), 29, 1<<29 - 1, api.ErrLarge},
		{chain(30, 2), 30, 1000000000, api.ErrLarge}, // 1073741823
		{chain(64, 2), 64, 1000000000, api.ErrLarge},
		{chain(api.MaxSteps, api.MaxHyps), api.MaxSteps, 1000000000, api.ErrLarge},
		{chain(api.MaxSteps, 1), api.MaxSteps, api.MaxSteps, api.OK},
		{proof("a; b 0 0"), 2, 3, api.OK},
	} {
		if n, m, e := Size(x.p); e != api.OK || n != x.steps || m != x.expanded {
			t.Errorf("Size of %d steps: %d, %d, %d", len(x.p.Steps), n, m, e)
		}
		for _, most := range []int{api.MaxSteps, api.MaxSteps + 1, 1<<63 - 1} {
			if got, e := Expand(x.p, most); e != x.e || e == api.OK && len(got.Steps) != x.expanded || e != api.OK && got.Steps != nil {
				t.Errorf("Expand of %d steps to %d: %d, %d", len(x.p.Steps), most, len(got.Steps), e)
			}
		}
	}
	// the greatest number that is told, and those around it
	for _, x := range []struct{ size, want int }{{999999999, 999999999}, {1000000000, 1000000000}, {1000000001, 1000000000}, {999999998, 999999998}} {
		if n, m, e := Size(sized(x.size)); e != api.OK || m != x.want || n > 200 {
			t.Errorf("Size of %d: %d, %d, %d", x.size, n, m, e)
		}
	}
	// as many steps as there may be, and one more, of far smaller graphs
	for _, x := range []struct {
		size int
		e    api.Errno
	}{{api.MaxSteps, api.OK}, {api.MaxSteps + 1, api.ErrLarge}} {
		if got, e := Expand(sized(x.size), 1<<62); e != x.e || e == api.OK && len(got.Steps) != x.size {
			t.Errorf("Expand of %d: %d, %d", x.size, len(got.Steps), e)
		}
	}
}

// sized returns a short proof whose expanded one has n steps.
func sized(n int) api.Proof {
	if n == 1 {
		return proof("a")
	}
	half := (n - 1) / 2
	p := sized(max(half, 1))
	last := len(p.Steps) - 1
	switch {
	case n == 2:
		p.Steps = append(p.Steps, api.Step{Label: "c", Args: []int{last}})
	case n%2 == 1:
		p.Steps = append(p.Steps, api.Step{Label: "b", Args: []int{last, last}})
	default:
		p.Steps = append(p.Steps, api.Step{Label: "b", Args: []int{last, last}}, api.Step{Label: "c", Args: []int{last + 1}})
	}
	return p
}

// P9.1: Graft, and its errors.
func TestGraft(t *testing.T) {
	for _, x := range []struct {
		p    string
		at   int
		q    string
		want string
	}{
		{"a; b 0 0; c 1 1", 0, "d; e 0", "d; e 0; b 1 1; c 2 2"},
		{"a; b 0 0", 1, "a", "a"},
		{"a; b 0 0", 1, "z; c; d 1 1", "c; d 0 0"},
		{"a; b 0 0; c 1 1", 1, "a", "a; c 0 0"},
		{"a; a; b 0 1", 0, "c", "c; a; b 0 1"}, // another step with this tree stays
		{"a; a; b 0 1", 1, "c", "a; c; b 0 1"},
		{"a; a; b 0 0", 1, "c", "a; b 0 0"}, // a step that is not needed
		{"a; b 0; c 1 0", 1, "a; b 0; c 1 0", "a; b 0; c 1 0; c 2 0"},
		{"a; b 0; c 1 0", 0, "a; b 0", "a; b 0; b 1; c 2 1"},
		{"a; b; c 0 1", 1, "a", "a; c 0 0"},
		{"x; a; b 1; c 2 2", 2, "y; a; b 1 1", "a; b 0 0; c 1 1"},
	} {
		if got, e := Graft(proof(x.p), x.at, proof(x.q)); e != api.OK || !same(got, proof(x.want)) {
			t.Errorf("Graft of %q at %d with %q: %v, %d, want %q", x.p, x.at, x.q, got, e, x.want)
		}
	}
	p := proof("a; b 0")
	for _, at := range []int{-1, 2, -1 << 63, 1<<63 - 1} {
		if got, e := Graft(p, at, p); e != api.ErrRange || got.Steps != nil {
			t.Errorf("Graft at %d: %v, %d", at, got, e)
		}
		if _, e := Graft(p, at, api.Proof{}); e != api.ErrSize {
			t.Errorf("Graft of nothing at %d: %d", at, e)
		}
	}
	half, other := chain(api.MaxSteps/2, 1), chain(api.MaxSteps/2, 1)
	if got, e := Graft(half, 0, other); e != api.OK || !same(got, chain(api.MaxSteps-1, 1)) {
		t.Errorf("Graft of two halves: %d, %d", len(got.Steps), e)
	}
	for _, x := range []struct {
		n    int
		want api.Errno
	}{{api.MaxSteps/2 + 1, api.OK}, {api.MaxSteps/2 + 2, api.ErrLarge}, {api.MaxSteps, api.ErrLarge}} {
		if got, e := Graft(chain(x.n, 1), 0, other); e != x.want || e == api.OK && len(got.Steps) != api.MaxSteps || e != api.OK && got.Steps != nil {
			t.Errorf("Graft of %d and half the most: %d, %d", x.n, len(got.Steps), e)
		}
	}
	most := chain(api.MaxSteps, 1)
	if got, e := Graft(most, api.MaxSteps-1, most); e != api.OK || !same(got, most) {
		t.Errorf("Graft of the most steps at the last one: %d, %d", len(got.Steps), e)
	}
	if got, e := Graft(most, 0, proof("z; a")); e != api.OK || !same(got, most) {
		t.Errorf("Graft of what is shared again: %d, %d", len(got.Steps), e)
	}
}

// P9.1: proofs that differ in a step somewhere are not the same.
func TestSame(t *testing.T) {
	for _, x := range []struct {
		p, q string
		want bool
	}{
		{"a", "a", true}, {"a", "b", false}, {"a", "z; a", true}, {"a; b 0", "a", false}, {"a; b 0", "a; b", false},
		{"a; b 0 0", "a; a; b 0 1", true}, {"a; c; b 0 1", "a; c; b 1 0", false}, {"a; c; b 0 1", "c; a; b 1 0", true},
		{"a; b 0", "c; b 0", false}, {"a; b 0 0", "a; b 0", false},
	} {
		if Same(proof(x.p), proof(x.q)) != x.want || Same(proof(x.q), proof(x.p)) != x.want {
			t.Errorf("Same of %q and %q is not %t", x.p, x.q, x.want)
		}
	}
	if p := chain(api.MaxSteps, api.MaxHyps); !Same(p, p) || Same(p, chain(api.MaxSteps-1, api.MaxHyps)) {
		t.Errorf("Same of trees of 40^2000 steps")
	}
}

// random returns a proof of few steps and labels, so that there are many equal ones.
func random(r *rand.Rand, most int) api.Proof {
	var p api.Proof
	for range 1 + r.Intn(most) {
		x := api.Step{Label: string("abc"[r.Intn(3)])}
		for n := r.Intn(3); n > 0 && len(p.Steps) > 0; n-- {
			x.Args = append(x.Args, r.Intn(len(p.Steps)))
		}
		p.Steps = append(p.Steps, x)
	}
	return p
}

// treeOf writes the tree of a step; those of the step at are those of q, if there is one.
func treeOf(p api.Proof, s, at int, q api.Proof) string {
	if s == at {
		return treeOf(q, len(q.Steps)-1, -1, q)
	}
	x := p.Steps[s].Label + "("
	for _, a := range p.Steps[s].Args {
		x += treeOf(p, a, at, q)
	}
	return x + ")"
}

func whole(p api.Proof) string { return treeOf(p, len(p.Steps)-1, -1, p) }

// labels returns the labels of a tree, ascending, each once.
func labels(text string) []string {
	l := strings.FieldsFunc(text, func(c rune) bool { return c == '(' || c == ')' })
	slices.Sort(l)
	return slices.Compact(l)
}

// isPostorder reports whether each step is needed, and stands where it is finished first.
func isPostorder(p api.Proof) bool {
	next := 0
	var visit func(s int) bool
	visit = func(s int) bool {
		if s < next {
			return true
		}
		for _, a := range p.Steps[s].Args {
			if !visit(a) {
				return false
			}
		}
		next++
		return s == next-1
	}
	return visit(len(p.Steps)-1) && next == len(p.Steps)
}

// reached returns how many steps are needed, and how many different trees these have.
func reached(p api.Proof) (steps, trees int) {
	needed, different := map[int]bool{len(p.Steps) - 1: true}, map[string]bool{}
	for s := len(p.Steps) - 1; s >= 0; s-- {
		if needed[s] {
			different[treeOf(p, s, -1, p)] = true
			for _, a := range p.Steps[s].Args {
				needed[a] = true
			}
		}
	}
	return len(needed), len(different)
}

// P9.1, P9.2, P9.4: random proofs by their trees.
func TestTrees(t *testing.T) {
	r := rand.New(rand.NewSource(9))
	for range 5000 {
		p := random(r, 10)
		ordered, e1 := Ordered(p)
		shared, e2 := Share(p)
		expanded, e3 := Expand(p, api.MaxSteps)
		text := whole(p)
		if e1 != api.OK || e2 != api.OK || e3 != api.OK || whole(ordered) != text || whole(shared) != text || whole(expanded) != text {
			t.Fatalf("%v: %v, %v, %v", p, ordered, shared, expanded)
		}
		if !isPostorder(ordered) || !isPostorder(shared) || !isPostorder(expanded) {
			t.Fatalf("the order of %v: %v, %v, %v", p, ordered, shared, expanded)
		}
		steps, trees := reached(p)
		size := strings.Count(text, "(")
		if len(ordered.Steps) != steps || len(shared.Steps) != trees || len(expanded.Steps) != size {
			t.Fatalf("the lengths of %v: %v, %v, %v", p, ordered, shared, expanded)
		}
		if n, m, e := Size(p); e != api.OK || n != steps || m != size {
			t.Fatalf("Size of %v: %d, %d, %d", p, n, m, e)
		}
		again, _ := Ordered(ordered)
		sharedAgain, _ := Share(shared)
		expandedAgain, _ := Expand(expanded, size)
		if !same(again, ordered) || !same(sharedAgain, shared) || !same(expandedAgain, expanded) {
			t.Fatalf("twice, of %v: %v, %v, %v", p, again, sharedAgain, expandedAgain)
		}
		sharedBack, _ := Share(expanded)
		expandedBack, _ := Expand(shared, size)
		if !same(sharedBack, shared) || !same(expandedBack, expanded) {
			t.Fatalf("one behind the other, of %v: %v, %v", p, sharedBack, expandedBack)
		}
		if !slices.Equal(Names(p), labels(text)) {
			t.Fatalf("Names of %v: %q", p, Names(p))
		}
		if q := random(r, 4); Same(p, q) != (whole(p) == whole(q)) {
			t.Fatalf("Same of %v and %v", p, q)
		}
	}
}

// P9.1, P9.5: grafts of random proofs by their trees.
func TestGrafts(t *testing.T) {
	r := rand.New(rand.NewSource(95))
	for range 5000 {
		p, q := random(r, 8), random(r, 5)
		at := r.Intn(len(p.Steps))
		got, e := Graft(p, at, q)
		if e != api.OK || whole(got) != treeOf(p, len(p.Steps)-1, at, q) {
			t.Fatalf("Graft of %v at %d with %v: %v, %d", p, at, q, got, e)
		}
		if again, _ := Share(got); !same(again, got) {
			t.Fatalf("Graft of %v at %d with %v is not shared: %v", p, at, q, got)
		}
		both := append(Names(p), Names(q)...)
		for _, s := range Names(got) {
			if !slices.Contains(both, s) {
				t.Fatalf("Graft of %v at %d with %v has %q", p, at, q, s)
			}
		}
		shared, _ := Share(p)
		if own, e := Graft(p, at, api.Proof{Steps: p.Steps[:at+1]}); e != api.OK || !same(own, shared) {
			t.Fatalf("Graft of %v at %d with what ends there: %v, %d", p, at, own, e)
		}
	}
}

// P9.1: no argument is changed, nor what lies behind a list's end, and what is returned is new.
func TestMemory(t *testing.T) {
	const text = "a; b 0 0; c 1 1"
	roomy := func() api.Proof {
		p := proof(text)
		p.Steps = append(make([]api.Step, 0, 9), p.Steps...)
		for s, x := range p.Steps {
			p.Steps[s].Args = append(make([]int, 0, 9), x.Args...)
		}
		return p
	}
	p, q := roomy(), roomy()
	spoil := func(l api.Proof, e api.Errno) {
		for s := range l.Steps {
			_ = append(l.Steps[s].Args, 7)
			for a := range l.Steps[s].Args {
				l.Steps[s].Args[a] = 7
			}
			l.Steps[s].Label = "spoiled"
		}
		_ = append(l.Steps, api.Step{Label: "spoiled"})
	}
	for range 2 {
		spoil(Ordered(p))
		spoil(Share(p))
		spoil(Expand(p, 99))
		spoil(Graft(p, 0, q))
		spoil(Graft(p, 1, q))
		spoil(Graft(p, 2, q))
		Size(p)
		Same(p, q)
		Names(p)[0] = "spoiled"
	}
	for _, x := range []api.Proof{p, q} {
		rest := x.Steps[:9]
		if !same(x, proof(text)) || rest[3].Label != "" || x.Steps[1].Args[:3][2] != 0 || x.Steps[0].Args[:1][0] != 0 {
			t.Errorf("a proof has become %v", rest)
		}
	}
}
