package layout

import (
	"strings"

	"apodixis/api"
)

// maxIndent is how many spaces the lines of deep scopes begin with.
const maxIndent = 20

// depth is how many more scopes were opened than closed.
type depth int

// pass returns the indent of a statement of a kind, behind which the depth is that of the next one.
func (d *depth) pass(kind int) int {
	if kind == api.Close {
		*d--
	}
	indent := min(max(2*int(*d), 0), maxIndent)
	if kind == api.Open {
		*d++
	}
	return indent
}

// printer returns a function that prints a block of words, and one that returns the text of all blocks.
func printer(width int) (block func(indent int, words []string), text func() string) {
	var out []byte
	var length int // of the line so far
	put := func(s string) {
		out = append(out, s...)
		length += len(s)
	}
	block = func(indent int, words []string) {
		length = 0
		put(strings.Repeat(" ", indent))
		for i, w := range words {
			switch {
			case i == 0:
			case length+1+len(w) <= width:
				put(" ")
			default:
				out = append(out, '\n')
				length = 0
				put(strings.Repeat(" ", indent+4))
			}
			put(w)
		}
		out = append(out, '\n')
	}
	return block, func() string { return string(out) }
}

// Print returns a text of statements, with lines of at most width bytes where possible.
func Print(l []api.Statement, width int) (string, api.Errno) {
	if _, e := Words(l); e != api.OK {
		return "", e
	}
	block, text := printer(width)
	var d depth
	for _, s := range l {
		block(d.pass(s.Kind), spell(s))
	}
	if s := text(); len(s) <= api.MaxSource {
		return s, api.OK
	}
	return "", api.ErrLarge
}

// Of returns the document of statements whose text is that of Print.
func Of(l []api.Statement, width int) (Document, api.Errno) {
	text, e := Print(l, width)
	if e != api.OK {
		return Document{}, e
	}
	d, _, e := Read(text)
	return d, e
}

// Rewrap returns a text with the same tokens, those of comments included, and lines of at most width bytes where possible.
func Rewrap(text string, width int) (string, int, api.Errno) {
	doc, at, e := Read(text)
	if e != api.OK {
		return "", at, e
	}
	block, result := printer(width)
	comments := func(indent int, gap string) {
		var words []string
		for w := range tokens(gap) {
			words = append(words, w)
			if w == "$)" {
				block(indent, words)
				words = nil
			}
		}
	}
	var d depth
	for _, p := range doc.Parts {
		indent := d.pass(p.Statement.Kind)
		comments(indent, p.Gaps[0])
		block(indent, commented(p))
	}
	comments(d.pass(api.Open), doc.Tail)
	if s := result(); len(s) <= api.MaxSource {
		return s, 0, api.OK
	}
	return "", 0, api.ErrLarge
}

// commented returns the words of a part's statement with the tokens of the comments between them.
func commented(p Part) []string {
	var words []string
	for i, w := range spell(p.Statement) {
		if i > 0 {
			for t := range tokens(p.Gaps[i]) {
				words = append(words, t)
			}
		}
		words = append(words, w)
	}
	return words
}
