package certify

import (
	"strconv"
	"strings"

	"apodixis/api"
	"apodixis/table"
)

// Parse returns the certificate with a text.
func Parse(s string) (Certificate, api.Errno) {
	if len(s) > maxText {
		return Certificate{}, api.ErrLarge
	}
	r := &reader{rest: s}
	var c Certificate
	if !attempt(func() { c = r.certificate() }) {
		return Certificate{}, api.ErrForm
	}
	return c, api.OK
}

// reader reads what is left of a text. It fails where the text is not just what is written.
type reader struct {
	rest  string
	nodes int // of the tree that is read
}

// starts reads a piece of text, if it is the next one.
func (r *reader) starts(s string) bool {
	rest, ok := strings.CutPrefix(r.rest, s)
	r.rest = rest
	return ok
}

// need reads a piece of text that has to be the next one.
func (r *reader) need(s string) {
	if !r.starts(s) {
		panic(failure{})
	}
}

// next reads a byte.
func (r *reader) next() byte {
	if r.rest == "" {
		panic(failure{})
	}
	x := r.rest[0]
	r.rest = r.rest[1:]
	return x
}

// number reads a space and a number.
func (r *reader) number() int {
	r.need(" ")
	end := strings.IndexAny(r.rest, " \n")
	if end < 0 {
		panic(failure{})
	}
	word := r.rest[:end]
	n, err := strconv.Atoi(word)
	if err != nil || strconv.Itoa(n) != word {
		panic(failure{})
	}
	r.rest = r.rest[end:]
	return n
}

// literal reads a space and a literal.
func (r *reader) literal() string {
	r.need(` "`)
	var s []byte
	for {
		x := r.next()
		switch {
		case x == '"':
			return string(s)
		case x == '\\':
			s = append(s, r.escaped())
		case isPlain(x):
			s = append(s, x)
		default:
			panic(failure{})
		}
	}
}

// escaped reads what stands behind a backslash.
func (r *reader) escaped() byte {
	x := r.next()
	if x == '"' || x == '\\' {
		return x
	}
	if x != 'x' {
		panic(failure{})
	}
	high := r.digit()
	low := r.digit()
	x = high<<4 | low
	if isPlain(x) {
		panic(failure{})
	}
	return x
}

// digit reads a hexadecimal digit.
func (r *reader) digit() byte {
	x := r.next()
	switch {
	case x >= '0' && x <= '9':
		return x - '0'
	case x >= 'a' && x <= 'f':
		return x - 'a' + 10
	}
	panic(failure{})
}

// tree reads a space and a tree that stands at a depth.
func (r *reader) tree(depth int) api.Tree {
	r.nodes++
	if r.nodes > api.MaxNodes || depth > api.MaxDepth {
		panic(failure{})
	}
	t := api.Tree{Label: r.literal()}
	if !r.starts(" (") {
		return t
	}
	for ok := false; !ok; ok = r.starts(" )") {
		t.Kids = append(t.Kids, r.tree(depth+1))
	}
	return t
}

// whole reads the name of a line, and a tree.
func (r *reader) whole(name string) api.Tree {
	r.need(name)
	r.nodes = 0
	t := r.tree(1)
	r.need("\n")
	return t
}

// certificate reads the lines of a certificate, up to the end.
func (r *reader) certificate() Certificate {
	var c Certificate
	r.need("certificate")
	c.Kind = r.number()
	c.Sort = r.literal()
	r.need("\ntable")
	c.Table.Sort = r.literal()
	r.need("\n")
	for r.starts("state") {
		c.Table.States = append(c.Table.States, r.state())
	}
	for r.starts("edge") {
		c.Table.Edges = append(c.Table.Edges, r.edge())
	}
	r.need("text")
	for !r.starts("\n") {
		c.Text = append(c.Text, r.literal())
	}
	c.A = r.whole("left")
	c.B = r.whole("right")
	if r.rest != "" {
		panic(failure{})
	}
	return c
}

// state reads the items of a state, behind its name.
func (r *reader) state() []table.Item {
	count := r.number()
	r.need("\n")
	if count < 0 {
		panic(failure{})
	}
	var l []table.Item
	for range count {
		r.need("item")
		var x table.Item
		x.Rule = r.number()
		x.Dot = r.number()
		x.Next = r.literal()
		r.need("\n")
		l = append(l, x)
	}
	return l
}

// edge reads an edge, behind its name.
func (r *reader) edge() table.Edge {
	var x table.Edge
	x.From = r.number()
	x.On = r.literal()
	x.Sort = r.starts(" sort")
	if !x.Sort {
		r.need(" symbol")
	}
	x.To = r.number()
	r.need("\n")
	return x
}
