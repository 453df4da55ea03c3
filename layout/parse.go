package layout

import (
	"apodixis/api"
	"apodixis/token"
)

// States of the parser: what it expects next.
const (
	beginning = iota // the first word of a statement
	labelled         // the keyword behind a label
	symbols          // a math symbol, or what ends them
	proving          // a proof word, or the end of the statement
)

// parser has the statements that are complete, and the one that is being read.
type parser struct {
	list  []api.Statement
	now   api.Statement
	state int
}

// Parse returns the statements with given words; with an error, the index of a word.
func Parse(words []string) ([]api.Statement, int, api.Errno) {
	if len(words) > api.MaxTokens {
		return nil, 0, api.ErrSize
	}
	var p parser
	var at int
	e := api.OK
parse:
	for i, w := range words {
		at = i
		switch p.state {
		case beginning:
			e = p.begin(w)
		case labelled:
			e = p.keyword(w)
			if e == ErrLabel {
				at = i - 1
			}
		case symbols:
			e = p.symbol(w)
		case proving:
			e = p.proof(w)
		}
		if e != api.OK {
			break parse
		}
	}
	if e != api.OK {
		return nil, at, e
	}
	if p.state != beginning {
		return nil, len(words), api.ErrEnd
	}
	return p.list, 0, api.OK
}

// begin takes the first word of a statement.
func (p *parser) begin(w string) api.Errno {
	if len(p.list) >= api.MaxStatements {
		return api.ErrFull
	}
	kind := kindOf(w)
	switch {
	case forms[kind].named:
		return ErrLabel
	case kind > 0:
		p.now = api.Statement{Kind: kind}
		p.state = symbols
		if forms[kind].most == 0 {
			p.end()
		}
	case token.IsKeyword(w):
		return ErrKeyword
	case !token.IsLabel(w):
		return ErrLabel
	default:
		p.now = api.Statement{Label: w}
		p.state = labelled
	}
	return api.OK
}

// keyword takes the word behind a label; with ErrLabel, it is the label that is wrong.
func (p *parser) keyword(w string) api.Errno {
	kind := kindOf(w)
	switch {
	case kind == 0:
		return ErrKeyword
	case !forms[kind].named:
		return ErrLabel
	}
	p.now.Kind = kind
	p.state = symbols
	return api.OK
}

// symbol takes a word where a math symbol may stand.
func (p *parser) symbol(w string) api.Errno {
	f := forms[p.now.Kind]
	theorem := p.now.Kind == api.Theorem
	n := len(p.now.Text)
	switch {
	case w == "$." || w == "$=" && theorem:
		if n < f.least {
			return ErrLength
		}
		if w == "$=" {
			p.state = proving
			return api.OK
		}
		if theorem {
			return ErrKeyword
		}
		p.end()
		return api.OK
	case token.IsKeyword(w):
		return ErrKeyword
	case !token.IsSymbol(w):
		return ErrSymbol
	case n >= f.most:
		return ErrLength
	}
	p.now.Text = append(p.now.Text, w)
	return api.OK
}

// proof takes a word behind `$=`.
func (p *parser) proof(w string) api.Errno {
	switch {
	case w == "$.":
		p.end()
		return api.OK
	case token.IsKeyword(w):
		return ErrKeyword
	case !isProofWord(w):
		return ErrProof
	}
	p.now.Proof = append(p.now.Proof, w)
	return api.OK
}

// end adds the statement that is complete.
func (p *parser) end() {
	p.list = append(p.list, p.now)
	p.state = beginning
}
