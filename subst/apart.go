package subst

import (
	"cmp"
	"iter"
	"maps"
	"slices"
	"strings"

	"apodixis/api"
)

// Sorted returns pairs in their order, each once.
func Sorted(l []api.Pair) []api.Pair {
	sorted := make([]api.Pair, len(l))
	for i, p := range l {
		sorted[i] = pairOf(p.A, p.B)
	}
	slices.SortFunc(sorted, compare)
	return slices.Compact(sorted)
}

// pairOf returns the sorted pair of two variables.
func pairOf(x, y string) api.Pair { return api.Pair{A: min(x, y), B: max(x, y)} }

// compare tells the order of pairs.
func compare(p, q api.Pair) int {
	return cmp.Or(strings.Compare(p.A, q.A), strings.Compare(p.B, q.B))
}

// Apart returns the pairs of variables that a substitution requires to be disjoint, and whether no variable would have to be disjoint from itself.
func Apart(l []api.Bind, pairs []api.Pair, variables []string) ([]api.Pair, bool) {
	// Many pairs may require the same ones, so that a list of all of them could be far longer than what is returned.
	needed := map[api.Pair]bool{}
	possible := true
	for x, y := range required(l, pairs, variables) {
		if x == y {
			possible = false
			continue
		}
		needed[pairOf(x, y)] = true
	}
	return slices.SortedFunc(maps.Keys(needed), compare), possible
}

// Broken returns the first pair that a substitution requires and that is not permitted; false without one.
func Broken(l []api.Bind, pairs []api.Pair, variables []string, wide []api.Pair) (api.Pair, bool) {
	if len(pairs) == 0 {
		return api.Pair{}, false // without sorting wide, as most assertions require nothing
	}
	permitted := Sorted(wide)
	for x, y := range required(l, pairs, variables) {
		p := pairOf(x, y)
		if _, found := slices.BinarySearchFunc(permitted, p, compare); !found || x == y {
			return p, true
		}
	}
	return api.Pair{}, false
}

// required yields the pairs that a substitution requires, pair by pair.
func required(l []api.Bind, pairs []api.Pair, variables []string) iter.Seq2[string, string] {
	return func(yield func(string, string) bool) {
		m, wanted := imagesOf(l), setOf(variables)
		known := map[string][]string{}
		find := func(symbol string) []string {
			found, ok := known[symbol]
			if !ok {
				found = occurring(m.of([]string{symbol}, 0), wanted)
				known[symbol] = found
			}
			return found
		}
		for _, p := range pairs {
			for x, y := range product(find(p.A), find(p.B)) {
				if !yield(x, y) {
					return
				}
			}
		}
	}
}

// product yields each element of a with each element of b.
func product(a, b []string) iter.Seq2[string, string] {
	return func(yield func(string, string) bool) {
		for _, x := range a {
			for _, y := range b {
				if !yield(x, y) {
					return
				}
			}
		}
	}
}
