// Package token is layer 1: it splits a text into tokens. See shared/doc/01-token.md.
package token

import "apodixis/api"

// Codes of layer 1.
const (
	ErrByte api.Errno = 30 // a byte that is neither white space nor a printable character
)

// Kinds of tokens, as Kind returns them.
const (
	Other   = 0 // none of the following
	Keyword = 1 // one of the keywords
	Label   = 2 // a label, which is a math symbol as well
	Symbol  = 3 // a math symbol that is not a label
)

// Keywords returns all keywords, in the order of the document.
func Keywords() []string {
	var l []string
	for _, k := range keywords() {
		l = append(l, string(k[:]))
	}
	return l
}

// Scan returns the tokens of a text; with an error, the byte offset of its first cause.
func Scan(text string) ([]api.Token, int, api.Errno) {
	if len(text) > api.MaxSource {
		return nil, 0, api.ErrSize
	}
	table := classes()
	var l []api.Token
	begin := 0
scan:
	for i := range len(text) {
		switch table[text[i]] {
		case bad:
			return nil, i, ErrByte
		case space:
			begin = i + 1
			continue scan
		}
		if i+1 < len(text) && table[text[i+1]] != space {
			continue scan
		}
		l = append(l, api.Token{Text: text[begin : i+1], At: begin})
	}
	// A wrong byte behind too many tokens is the error that is named first, so they are counted at the end.
	if len(l) > api.MaxTokens {
		return nil, l[api.MaxTokens].At, api.ErrFull
	}
	return l, 0, api.OK
}

// Texts returns the texts of tokens.
func Texts(l []api.Token) []string {
	texts := make([]string, len(l))
	for i, t := range l {
		texts[i] = t.Text
	}
	return texts
}

// Kind returns the kind of a token.
func Kind(s string) int {
	switch {
	case IsKeyword(s):
		return Keyword
	case IsLabel(s):
		return Label
	case IsSymbol(s):
		return Symbol
	}
	return Other
}

// IsKeyword reports whether s is a keyword.
func IsKeyword(s string) bool {
	if len(s) != 2 {
		return false
	}
	pair := [2]byte([]byte(s))
	for _, k := range keywords() {
		if pair == k {
			return true
		}
	}
	return false
}

// IsLabel reports whether s is a label.
func IsLabel(s string) bool {
	return nameLength(s) && consists(s, func(c class) bool { return c == letter })
}

// IsSymbol reports whether s is a math symbol.
func IsSymbol(s string) bool {
	return nameLength(s) && consists(s, func(c class) bool { return c == letter || c == sign })
}

// IsSpace reports whether s consists of white space only.
func IsSpace(s string) bool {
	return consists(s, func(c class) bool { return c == space })
}

// Position returns the line and the column, both counted from 1, of a byte offset of a text.
func Position(text string, at int) (line, column int, e api.Errno) {
	if at < 0 || at > len(text) {
		return 0, 0, api.ErrRange
	}
	ends, begin := 0, 0
	for i := range at {
		if endsLine(text, i) {
			ends++
			begin = i + 1
		}
	}
	return ends + 1, at - begin + 1, api.OK
}

// Gaps returns the white space ahead of each token of a text, and behind the last one.
func Gaps(text string) ([]string, api.Errno) {
	l, _, e := Scan(text)
	if e != api.OK {
		return nil, e
	}
	var gaps []string
	end := 0
	for _, t := range l {
		gaps = append(gaps, text[end:t.At])
		end = t.At + len(t.Text)
	}
	return append(gaps, text[end:]), api.OK
}

// Weave returns the text with the given tokens and gaps.
func Weave(gaps, words []string) (string, api.Errno) {
	if len(gaps) != len(words)+1 {
		return "", api.ErrSize
	}
	size := 0
	for i, g := range gaps {
		inner := i > 0 && i < len(words)
		if !IsSpace(g) || inner && g == "" {
			return "", api.ErrForm
		}
		size += len(g)
		if i == len(words) {
			break
		}
		if !isWord(words[i]) {
			return "", api.ErrForm
		}
		size += len(words[i])
	}
	if size > api.MaxSource {
		return "", api.ErrLarge
	}
	if len(words) > api.MaxTokens {
		return "", api.ErrFull
	}
	text := make([]byte, 0, size)
	for i, w := range words {
		text = append(text, gaps[i]...)
		text = append(text, w...)
	}
	text = append(text, gaps[len(words)]...)
	return string(text), api.OK
}

// isWord reports whether s may stand between two gaps as one token.
func isWord(s string) bool {
	return s != "" && consists(s, func(c class) bool { return c != space && c != bad })
}

func nameLength(s string) bool { return len(s) >= 1 && len(s) <= api.MaxLabel }

// endsLine reports whether a line ends behind the byte i of a text; a line feed behind a carriage return belongs to the same end.
func endsLine(text string, i int) bool {
	if text[i] == '\r' {
		return i+1 == len(text) || text[i+1] != '\n'
	}
	return text[i] == '\n'
}

// keywords returns the keywords in the order of the document.
func keywords() [15][2]byte {
	return [15][2]byte{
		{'$', 'c'}, {'$', 'v'}, {'$', 'f'}, {'$', 'e'}, {'$', 'd'}, {'$', 'a'}, {'$', 'p'}, {'$', '.'},
		{'$', '='}, {'$', '{'}, {'$', '}'}, {'$', '('}, {'$', ')'}, {'$', '['}, {'$', ']'},
	}
}
