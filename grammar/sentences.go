package grammar

import (
	"cmp"
	"maps"
	"slices"

	"apodixis/api"
)

// Limits of expressions.
const (
	maxLeast     = 1000000
	maxLength    = 12
	maxSentences = 2000
)

// Least returns the length of the shortest expression of a sort.
func Least(g Grammar, sort string) (int, api.Errno) {
	if e := check(g, sort); e != api.OK {
		return 0, e
	}
	n, ok := shortest(g)[sort]
	if !ok {
		return 0, api.ErrNone
	}
	if n > maxLeast {
		return 0, api.ErrLarge
	}
	return n, api.OK
}

// shortest returns the lengths of the shortest expressions of the productive sorts; maxLeast+1 stands for all greater ones, too.
func shortest(g Grammar) map[string]int {
	least := map[string]int{}
shrinking:
	for {
		changed := false
		for _, r := range g.Rules {
			n, ok := length(r.Parts, least)
			before, known := least[r.Sort]
			if ok && (!known || n < before) {
				least[r.Sort], changed = n, true
			}
		}
		if !changed {
			break shrinking
		}
	}
	return least
}

// length returns the least length of parts, one behind the other, if all of them have one.
func length(parts []Part, least map[string]int) (int, bool) {
	sum := 0
	for _, p := range parts {
		n, ok := 1, true
		if p.Sort != "" {
			n, ok = least[p.Sort]
		}
		if !ok {
			return 0, false
		}
		sum = min(sum+n, maxLeast+1)
	}
	return sum, true
}

// Sentences returns the expressions of a sort up to a length, in order.
func Sentences(g Grammar, sort string, most int) ([][]string, api.Errno) {
	if e := check(g, sort); e != api.OK {
		return nil, e
	}
	if most < 0 || most > maxLength {
		return nil, api.ErrRange
	}
	w := newWriter(g, reachable(g, sort), most)
	if !w.write() {
		return nil, api.ErrLarge
	}
	return w.decoded(w.languages[sort]), api.OK
}

// codeSize is how many bytes of a coded text stand for a symbol. The codes are in the order of the symbols, so that coded texts of one length are in the order of their texts.
const codeSize = 3

// language is a set of coded texts.
type language struct {
	known    map[string]bool
	byLength [][]string
}

func newLanguage(most int) *language {
	return &language{known: map[string]bool{}, byLength: make([][]string, most+1)}
}

func (l *language) add(s string) {
	if !l.known[s] {
		l.known[s] = true
		n := len(s) / codeSize
		l.byLength[n] = append(l.byLength[n], s)
	}
}

// production is a rule whose shortest expression is short enough, with the least length of what stands from each part on.
type production struct {
	rule  Rule
	least []int
	seen  int // how many expressions its parts had when it was used last
}

// writer collects the expressions of the sorts that are needed.
type writer struct {
	most      int
	symbols   []string
	codes     map[string]string
	languages map[string]*language
	list      []*production
}

func newWriter(g Grammar, sorts set, most int) *writer {
	w := &writer{most: most, codes: map[string]string{}, languages: map[string]*language{}}
	for sort := range sorts {
		w.languages[sort] = newLanguage(most)
	}
	least, used := shortest(g), set{}
	for r := range rules(g, func(r Rule) bool { return sorts[r.Sort] }) {
		if n, ok := length(r.Parts, least); !ok || n > most {
			continue
		}
		x := &production{rule: r, least: make([]int, len(r.Parts)+1), seen: -1}
		for i := range r.Parts {
			x.least[i], _ = length(r.Parts[i:], least)
			if r.Parts[i].Sort == "" {
				used[r.Parts[i].Symbol] = true
			}
		}
		w.list = append(w.list, x)
	}
	w.symbols = slices.Sorted(maps.Keys(used))
	for i, s := range w.symbols {
		w.codes[s] = string([]byte{byte(i >> 16), byte(i >> 8), byte(i)})
	}
	return w
}

// write collects all expressions, unless they are too many.
func (w *writer) write() bool {
growing:
	for {
		grows := false
		for _, x := range w.list {
			count := w.count(x.rule)
			if count == x.seen {
				continue
			}
			x.seen, grows = count, true
			if !w.use(x) {
				return false
			}
		}
		if !grows {
			break growing
		}
	}
	return true
}

// count returns how many expressions the parts of a rule have; it grows when one of them does.
func (w *writer) count(r Rule) int {
	count := 0
	for _, p := range r.Parts {
		if p.Sort != "" {
			count += len(w.languages[p.Sort].known)
		}
	}
	return count
}

// use adds the expressions that a rule builds of what its parts have so far.
func (w *writer) use(x *production) bool {
	built := newLanguage(w.most)
	built.add("")
	for i, p := range x.rule.Parts {
		built = w.extended(built, p, w.most-x.least[i+1])
		// Each beginning has the same shortest end: there are at least as many expressions.
		if len(built.known) > maxSentences {
			return false
		}
	}
	result := w.languages[x.rule.Sort]
	for _, l := range built.byLength {
		for _, s := range l {
			result.add(s)
		}
	}
	return len(result.known) <= maxSentences
}

// extended returns texts with a part behind them, up to a length, or too many of them.
func (w *writer) extended(l *language, p Part, room int) *language {
	longer := newLanguage(w.most)
	parts := newLanguage(w.most)
	if p.Sort != "" {
		parts = w.languages[p.Sort]
	} else if room > 0 {
		parts.add(w.codes[p.Symbol])
	}
	for n, texts := range l.byLength[:room+1] {
		for _, s := range texts {
			for _, ends := range parts.byLength[:room-n+1] {
				for _, end := range ends {
					longer.add(s + end)
				}
			}
			if len(longer.known) > maxSentences {
				return longer
			}
		}
	}
	return longer
}

// decoded returns the texts of a language, in order.
func (w *writer) decoded(l *language) [][]string {
	var texts [][]string
	for _, s := range slices.SortedFunc(maps.Keys(l.known), shorter) {
		text := make([]string, 0, len(s)/codeSize)
		for i := 0; i < len(s); i += codeSize {
			text = append(text, w.symbols[int(s[i])<<16|int(s[i+1])<<8|int(s[i+2])])
		}
		texts = append(texts, text)
	}
	return texts
}

// shorter compares coded texts, by their length and then symbol by symbol.
func shorter(a, b string) int { return cmp.Or(cmp.Compare(len(a), len(b)), cmp.Compare(a, b)) }
