package layout

import (
	"iter"
	"strings"

	"apodixis/api"
	"apodixis/source"
	"apodixis/token"
)

// Part is a statement of a document; Gaps has the white space and the comments ahead of each of its words.
type Part struct {
	Statement api.Statement
	Gaps      []string
}

// Document is a text as statements, without any loss; Tail is what follows the last statement.
type Document struct {
	Parts []Part
	Tail  string
}

// Read returns the document of a text; with an error, a byte offset.
func Read(text string) (Document, int, api.Errno) {
	words, _, at, e := source.Strip(text)
	if e != api.OK {
		return Document{}, at, e
	}
	l, i, e := Parse(token.Texts(words))
	if e != api.OK {
		if i < len(words) {
			return Document{}, words[i].At, e
		}
		return Document{}, len(text), e
	}
	var d Document
	next := 0
	var ahead []string
	for gap, isLast := range gaps(text, words) {
		if isLast {
			d.Tail = gap
			break
		}
		ahead = append(ahead, gap)
		if len(ahead) == count(l[next]) {
			d.Parts = append(d.Parts, Part{Statement: l[next], Gaps: ahead})
			ahead = nil
			next++
		}
	}
	return d, 0, api.OK
}

// gaps yields what stands ahead of each word of a text, and then, with true, what follows the last one.
func gaps(text string, words []api.Token) iter.Seq2[string, bool] {
	return func(yield func(string, bool) bool) {
		end := 0
		for _, w := range words {
			if !yield(text[end:w.At], false) {
				return
			}
			end = w.At + len(w.Text)
		}
		yield(text[end:], true)
	}
}

// Write returns the text of a document.
func Write(d Document) (string, api.Errno) {
	words, e := Words(Statements(d))
	if e != api.OK {
		return "", e
	}
	for _, p := range d.Parts {
		if len(p.Gaps) != count(p.Statement) {
			return "", api.ErrSize
		}
	}
	if !hasRightGaps(d) {
		return "", api.ErrForm
	}
	size := len(d.Tail)
	var pieces []string
	for _, p := range d.Parts {
		for _, g := range p.Gaps {
			w := words[len(pieces)/2]
			pieces = append(pieces, g, w)
			size += len(g) + len(w)
		}
	}
	if size > api.MaxSource {
		return "", api.ErrLarge
	}
	text := strings.Join(pieces, "") + d.Tail
	if _, _, e := token.Scan(text); e != api.OK {
		return "", e
	}
	return text, api.OK
}

// hasRightGaps reports whether the gaps and the Tail of a document keep its words apart, and nothing else in them is a word.
func hasRightGaps(d Document) bool {
	for i, p := range d.Parts {
		for j, g := range p.Gaps {
			first := i == 0 && j == 0
			if first && g == "" {
				continue
			}
			if !first && !beginsWithSpace(g) || !endsInSpace(g) || !isBlank(g) {
				return false
			}
		}
	}
	if d.Tail == "" {
		return true
	}
	return isBlank(d.Tail) && (len(d.Parts) == 0 || beginsWithSpace(d.Tail))
}

func beginsWithSpace(s string) bool { return s != "" && token.IsSpace(s[:1]) }

func endsInSpace(s string) bool { return s != "" && token.IsSpace(s[len(s)-1:]) }

// isBlank reports whether a text of any length has nothing but white space and whole comments (source.Strip would not look into a long one).
func isBlank(s string) bool {
	inside := false
	for w := range tokens(s) {
		switch {
		case !isPrintable(w):
			return false
		case w == "$(" && !inside:
			inside = true
		case w == "$)" && inside:
			inside = false
		case !inside, strings.Contains(w, "$("), strings.Contains(w, "$)"):
			return false
		}
	}
	return !inside
}

// tokens yields what white space divides a text into.
func tokens(s string) iter.Seq[string] {
	return func(yield func(string) bool) {
		begin := 0
		for i := range len(s) {
			if !token.IsSpace(s[i : i+1]) {
				continue
			}
			if begin < i && !yield(s[begin:i]) {
				return
			}
			begin = i + 1
		}
		if begin < len(s) {
			yield(s[begin:])
		}
	}
}

func isPrintable(s string) bool {
	for i := range len(s) {
		if s[i] < 33 || s[i] > 126 {
			return false
		}
	}
	return true
}

// Statements returns the statements of a document.
func Statements(d Document) []api.Statement {
	l := make([]api.Statement, len(d.Parts))
	for i, p := range d.Parts {
		l[i] = copied(p.Statement)
	}
	return l
}
