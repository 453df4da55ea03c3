package grammar

import "apodixis/api"

// Limits of grammars.
const (
	maxSorts = 32
	maxRules = 600
)

// Check returns the error of a grammar.
func Check(g Grammar) api.Errno {
	if len(g.Sorts) > maxSorts || len(g.Rules) > maxRules {
		return api.ErrSize
	}
	for range rules(g, func(r Rule) bool { return len(r.Parts) > api.MaxSymbols }) {
		return api.ErrSize
	}
	sorts, labels := names{}, names{}
	for _, s := range g.Sorts {
		if !sorts.add(s) {
			return ErrRule
		}
	}
	for _, r := range g.Rules {
		if !labels.add(r.Label) || !isRule(r, sorts) {
			return ErrRule
		}
	}
	return api.OK
}

// names are the sorts, or the labels, so far.
type names map[string]bool

// add reports whether a name is right, and not there yet.
func (n names) add(name string) bool {
	if name == "" || len(name) > api.MaxLabel || n[name] {
		return false
	}
	n[name] = true
	return true
}

// isRule reports whether a rule is right, but for its label.
func isRule(r Rule, sorts names) bool {
	if !sorts[r.Sort] {
		return false
	}
	seen := make([]bool, countArgs(r))
	if r.Variable && (len(r.Parts) != 1 || len(seen) > 0) {
		return false
	}
	for _, p := range r.Parts {
		if p.Sort == "" {
			if p.Symbol == "" || len(p.Symbol) > api.MaxLabel || p.Arg != 0 {
				return false
			}
			continue
		}
		if p.Symbol != "" || !sorts[p.Sort] || p.Arg < 0 || p.Arg >= len(seen) || seen[p.Arg] {
			return false
		}
		seen[p.Arg] = true
	}
	return true
}

// countArgs returns how many parts of a rule have a sort.
func countArgs(r Rule) int {
	count := 0
	for _, p := range r.Parts {
		if p.Sort != "" {
			count++
		}
	}
	return count
}
