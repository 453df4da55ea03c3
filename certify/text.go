package certify

import (
	"strconv"
	"strings"

	"apodixis/api"
	"apodixis/earley"
	"apodixis/grammar"
)

// maxText is how many bytes the text of a certificate may have.
const maxText = 200000

// sized returns the error of the size of a tree, which earley.Sort tells ahead of that of its labels.
func sized(t api.Tree) api.Errno {
	_, e := earley.Sort(grammar.Grammar{}, t)
	if e == api.ErrSize || e == api.ErrDepth {
		return e
	}
	return api.OK
}

// failure is what leaves a text that cannot be written, or read.
type failure struct{}

// attempt does some work, and reports whether it did not fail.
func attempt(work func()) (ok bool) {
	defer func() {
		if recover() != nil {
			ok = false
		}
	}()
	work()
	return true
}

// Text returns the text of a certificate.
func Text(c Certificate) (string, api.Errno) {
	a, b := sized(c.A), sized(c.B)
	if a == api.ErrSize || b == api.ErrSize {
		return "", api.ErrSize
	}
	if a != api.OK || b != api.OK {
		return "", api.ErrDepth
	}
	w := &writer{}
	if !attempt(func() { w.certificate(c) }) {
		return "", api.ErrLarge
	}
	return w.text.String(), api.OK
}

// writer writes the words of lines.
type writer struct{ text strings.Builder }

// put writes a piece of text, unless it is too long.
func (w *writer) put(s string) {
	if len(s) > maxText-w.text.Len() {
		panic(failure{})
	}
	w.text.WriteString(s)
}

// line writes a line with its words, each of which writes itself.
func (w *writer) line(name string, words ...func()) {
	w.put(name)
	for _, word := range words {
		w.put(" ")
		word()
	}
	w.put("\n")
}

// literal returns what writes a text as a literal.
func (w *writer) literal(s string) func() {
	return func() {
		const digits = "0123456789abcdef"
		w.put(`"`)
		for i := range len(s) {
			x := s[i]
			switch {
			case x == '"' || x == '\\':
				w.put(`\` + s[i:i+1])
			case isPlain(x):
				w.put(s[i : i+1])
			default:
				w.put(`\x` + digits[x>>4:x>>4+1] + digits[x&15:x&15+1])
			}
		}
		w.put(`"`)
	}
}

// isPlain reports whether a byte stands for itself in a literal, if it is no sign of literals.
func isPlain(x byte) bool { return x >= 32 && x <= 126 }

func (w *writer) number(n int) func() { return func() { w.put(strconv.Itoa(n)) } }

func (w *writer) word(s string) func() { return func() { w.put(s) } }

// tree returns what writes a tree.
func (w *writer) tree(t api.Tree) func() {
	return func() {
		w.literal(t.Label)()
		if len(t.Kids) == 0 {
			return
		}
		w.put(" (")
		for _, k := range t.Kids {
			w.put(" ")
			w.tree(k)()
		}
		w.put(" )")
	}
}

// certificate writes the lines of a certificate.
func (w *writer) certificate(c Certificate) {
	w.line("certificate", w.number(c.Kind), w.literal(c.Sort))
	w.line("table", w.literal(c.Table.Sort))
	for _, state := range c.Table.States {
		w.line("state", w.number(len(state)))
		for _, x := range state {
			w.line("item", w.number(x.Rule), w.number(x.Dot), w.literal(x.Next))
		}
	}
	for _, x := range c.Table.Edges {
		kind := "symbol"
		if x.Sort {
			kind = "sort"
		}
		w.line("edge", w.number(x.From), w.literal(x.On), w.word(kind), w.number(x.To))
	}
	var symbols []func()
	for _, s := range c.Text {
		symbols = append(symbols, w.literal(s))
	}
	w.line("text", symbols...)
	w.line("left", w.tree(c.A))
	w.line("right", w.tree(c.B))
}
