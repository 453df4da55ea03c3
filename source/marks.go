package source

import (
	"strings"

	"apodixis/api"
	"apodixis/token"
)

// Kinds of marks.
const (
	Plain = 1 // text without a mark
	Math  = 2 // math symbols between grave accents
	Refer = 3 // a label behind a tilde
	Cite  = 4 // a reference in square brackets
)

// Mark is a part of a comment.
type Mark struct {
	Kind int
	Text string
}

// Marks returns the parts of a comment's text; with an error, the byte offset.
func Marks(text string) ([]Mark, int, api.Errno) {
	var l []Mark
	var plain []byte
	add := func(kind int, s string) {
		if len(plain) > 0 {
			l = append(l, Mark{Plain, string(plain)})
			plain = nil
		}
		if kind != Plain {
			l = append(l, Mark{kind, s})
		}
	}
	i := 0
scan:
	for i < len(text) {
		rest := text[i:]
		switch {
		case isDoubled(rest):
			plain = append(plain, rest[0])
			i += 2
			continue scan
		case rest[0] == '`':
			n := strings.IndexByte(rest[1:], '`')
			if n < 0 {
				return nil, i, ErrMark
			}
			add(Math, rest[1:n+1])
			i += n + 2
			continue scan
		case rest[0] == '~':
			begin, end := referred(rest)
			if begin == end {
				return nil, i, ErrMark
			}
			add(Refer, rest[begin:end])
			i += end
			continue scan
		case rest[0] == '[':
			if n := cited(rest); n > 0 {
				add(Cite, rest[1:n])
				i += n + 1
				continue scan
			}
		}
		plain = append(plain, rest[0])
		i++
	}
	// An error of a mark is named first, also in a text that is too large.
	if len(text) > api.MaxSource {
		return nil, 0, api.ErrSize
	}
	add(Plain, "")
	return l, 0, api.OK
}

// isDoubled reports whether a text begins with two equal signs that stand for a plain one.
func isDoubled(s string) bool {
	return len(s) > 1 && s[0] == s[1] && (s[0] == '`' || s[0] == '~' || s[0] == '[')
}

// referred returns where the text behind the tilde that s begins with begins and ends; it is empty if there is none.
func referred(s string) (begin, end int) {
	begin = 1
	for begin < len(s) && isSpace(s[begin]) {
		begin++
	}
	if begin == 1 {
		return 0, 0
	}
	end = begin
	for end < len(s) && !isSpace(s[end]) {
		end++
	}
	return begin, end
}

// cited returns the index of the bracket that closes the one that s begins with, or 0 if this is a plain one.
func cited(s string) int {
	for i := 1; i < len(s); i++ {
		switch {
		case s[i] == ']' && i > 1:
			return i
		case s[i] == ']', s[i] == '[', isSpace(s[i]):
			return 0
		}
	}
	return 0
}

func isSpace(b byte) bool { return token.IsSpace(string([]byte{b})) }

// Unmark returns the comment's text with the given parts.
func Unmark(l []Mark) (string, api.Errno) {
	size := 0
	for i, m := range l {
		if !isRight(m) || i > 0 && !mayFollow(l[i-1], m) {
			return "", api.ErrForm
		}
		size += len(spell(m))
	}
	if size > api.MaxSource {
		return "", api.ErrLarge
	}
	text := make([]byte, 0, size)
	for _, m := range l {
		text = append(text, spell(m)...)
	}
	return string(text), api.OK
}

// isRight reports whether a part is one that Marks may return.
func isRight(m Mark) bool {
	if m.Text == "" {
		return false
	}
	switch m.Kind {
	case Plain:
		return true
	case Math:
		return !strings.Contains(m.Text, "`")
	case Refer:
		return !hasSpace(m.Text)
	case Cite:
		return !strings.ContainsAny(m.Text, "[]") && !hasSpace(m.Text)
	}
	return false
}

// mayFollow reports whether two right parts can stand side by side without becoming other ones.
func mayFollow(before, m Mark) bool {
	switch before.Kind {
	case Plain:
		return m.Kind != Plain
	case Refer:
		return m.Kind == Plain && isSpace(m.Text[0])
	}
	return true
}

func hasSpace(s string) bool {
	for i := range len(s) {
		if isSpace(s[i]) {
			return true
		}
	}
	return false
}

// spell returns the text of a part with its signs.
func spell(m Mark) string {
	switch m.Kind {
	case Math:
		return "`" + m.Text + "`"
	case Refer:
		return "~ " + m.Text
	case Cite:
		return "[" + m.Text + "]"
	}
	var text []byte
	for i := range len(m.Text) {
		b := m.Text[i]
		if b == '`' || b == '~' || b == '[' {
			text = append(text, b)
		}
		text = append(text, b)
	}
	return string(text)
}
