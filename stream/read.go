package stream

import (
	"strings"

	"apodixis/api"
)

// state is what the reader expects next.
type state int

const (
	atStart   state = iota // the first word of a statement
	atKeyword              // the keyword behind a label
	inFormula              // a math symbol, or what ends them
	inProof                // a proof word, or the end of the statement
	inSpoiled              // the end of a group that is no statement
	inComment              // the end of a comment
)

// statement is a statement that is being read.
type statement struct {
	keyword, label string
	text, proof    []string
}

// read takes the next bytes of the text.
func (r *Reader) read(piece string) {
	r.size += len(piece)
	if r.size > api.MaxSource {
		refuse()
	}
	for i := range len(piece) {
		switch c := piece[i]; {
		case c == ' ', c == '\t', c == '\r', c == '\n', c == '\f':
			r.flush()
		case c < '!' || c > '~':
			refuse()
		default:
			r.partial = append(r.partial, c)
		}
	}
}

// finish takes the end of the text.
func (r *Reader) finish() {
	r.flush()
	if r.state != atStart || len(r.scopes) > 0 {
		refuse()
	}
	*r = Reader{tokens: r.tokens, database: database{assertions: r.assertions}, ended: r.ended, closed: true}
}

// flush takes the token that the bytes behind the last white space are, if there are any.
func (r *Reader) flush() {
	if len(r.partial) == 0 {
		return
	}
	s := string(r.partial)
	r.partial = r.partial[:0]
	r.tokens++
	if r.tokens > api.MaxTokens || hidesComment(s) {
		refuse()
	}
	take := [...]func(*Reader, string){
		atStart:   (*Reader).begin,
		atKeyword: (*Reader).keyword,
		inFormula: (*Reader).symbol,
		inProof:   (*Reader).proofWord,
		inSpoiled: (*Reader).spoil,
		inComment: (*Reader).commented,
	}
	if r.state != inComment && (s == "$(" || s == "$)") {
		r.comment(s)
		return
	}
	take[r.state](r, s)
}

// comment takes a comment keyword outside of comments.
func (r *Reader) comment(s string) {
	if s == "$)" {
		refuse()
	}
	r.resumed = r.state
	r.state = inComment
}

// commented takes a token behind the beginning of a comment.
func (r *Reader) commented(s string) {
	switch s {
	case "$(":
		refuse()
	case "$)":
		r.state = r.resumed
	}
}

// begin takes a word ahead of a statement.
func (r *Reader) begin(s string) {
	switch {
	case s == "${":
		r.open()
	case s == "$}":
		r.leave()
	case s == "$c", s == "$v", s == "$d":
		r.now = statement{keyword: s}
		r.state = inFormula
	case isLabel(s):
		r.now = statement{label: s}
		r.state = atKeyword
	default:
		r.spoil(s)
	}
}

// keyword takes a word behind a label.
func (r *Reader) keyword(s string) {
	switch s {
	case "$f", "$e", "$a", "$p":
		r.now.keyword = s
		r.state = inFormula
	default:
		r.spoil(s)
	}
}

// symbol takes a word where a math symbol may stand.
func (r *Reader) symbol(s string) {
	least, most := 1, api.MaxSymbols
	if r.now.keyword == "$f" {
		least, most = 2, 2
	}
	n := len(r.now.text)
	isTheorem := r.now.keyword == "$p"
	switch {
	case isSymbol(s) && n < most:
		r.now.text = append(r.now.text, s)
	case s == "$=" && isTheorem && n >= least:
		r.state = inProof
	case s == "$." && !isTheorem && n >= least:
		r.end()
	default:
		r.spoil(s)
	}
}

// proofWord takes a word behind `$=`.
func (r *Reader) proofWord(s string) {
	switch {
	case s == "$.":
		r.end()
	case isProofWord(s):
		r.now.proof = append(r.now.proof, s)
	default:
		r.spoil(s)
	}
}

// spoil takes a word that no statement has at its place, or one behind it. Only the end of the group tells that the text is refused.
func (r *Reader) spoil(s string) {
	switch s {
	case "$.", "${", "$}":
		refuse()
	}
	r.state = inSpoiled
}

// hidesComment reports whether a comment keyword stands in a longer token.
func hidesComment(s string) bool {
	return len(s) > 2 && (strings.Contains(s, "$(") || strings.Contains(s, "$)"))
}

func isLabel(s string) bool {
	return len(s) <= api.MaxLabel && consists(s, isLetter)
}

// isSymbol reports whether a token is a math symbol.
func isSymbol(s string) bool {
	return len(s) <= api.MaxLabel && !strings.Contains(s, "$")
}

// isProofWord reports whether a token may stand in a proof.
func isProofWord(s string) bool {
	return s == "(" || s == ")" || consists(s, func(c byte) bool { return c == '?' || isLetter(c) })
}

// isLetter reports whether a byte may stand in a label.
func isLetter(c byte) bool {
	switch {
	case c >= '0' && c <= '9', c >= 'A' && c <= 'Z', c >= 'a' && c <= 'z':
		return true
	}
	return c == '-' || c == '_' || c == '.'
}

// consists reports whether each byte of a token is good.
func consists(s string, good func(byte) bool) bool {
	for i := range len(s) {
		if !good(s[i]) {
			return false
		}
	}
	return true
}
