package scope

import (
	"cmp"
	"slices"
	"strings"

	"apodixis/api"
)

// Pairs returns all pairs of different words, ascending, each once.
func Pairs(l []string) []api.Pair {
	words := slices.Clone(l)
	slices.Sort(words)
	words = slices.Compact(words)
	var pairs []api.Pair
	for i, a := range words {
		for _, b := range words[i+1:] {
			pairs = append(pairs, api.Pair{A: a, B: b})
		}
	}
	return pairs
}

// Join returns the union of two lists of pairs, ascending, each once.
func Join(a, b []api.Pair) []api.Pair {
	pairs := make([]api.Pair, 0, len(a)+len(b))
	pairs = append(pairs, a...)
	pairs = append(pairs, b...)
	slices.SortFunc(pairs, compare)
	return slices.Compact(pairs)
}

func compare(p, q api.Pair) int {
	return cmp.Or(strings.Compare(p.A, q.A), strings.Compare(p.B, q.B))
}
