package syntax

import (
	"strings"

	"apodixis/api"
)

// maxText is how many bytes the text of a tree may have.
const maxText = 250000

// term is a tree that is not too large: a leaf, or a branch with at least one kid.
type term interface{ label() string }

type leaf string

type branch struct {
	name string
	kids []term
}

func (l leaf) label() string { return string(l) }

func (b branch) label() string { return b.name }

// tooDeep is what leaves a tree whose depth is above api.MaxDepth.
type tooDeep struct{}

// termOf returns a tree as a term, or the error of its size.
func termOf(t api.Tree) (x term, e api.Errno) {
	count := 0
	for range nodes(t) {
		count++
		if count > api.MaxNodes {
			return nil, api.ErrSize
		}
	}
	defer func() {
		if recover() != nil {
			x, e = nil, api.ErrDepth
		}
	}()
	return converted(t, 1), api.OK
}

func converted(t api.Tree, depth int) term {
	if depth > api.MaxDepth {
		panic(tooDeep{})
	}
	if len(t.Kids) == 0 {
		return leaf(t.Label)
	}
	b := branch{name: t.Label}
	for _, k := range t.Kids {
		b.kids = append(b.kids, converted(k, depth+1))
	}
	return b
}

// Write returns a tree as a text with brackets; Read returns the tree.
func Write(t api.Tree) (string, api.Errno) {
	x, e := termOf(t)
	if e != api.OK {
		return "", e
	}
	var s strings.Builder
	if !write(&s, x) {
		return "", api.ErrForm
	}
	return s.String(), api.OK
}

// write writes a term, if all of its labels are right.
func write(s *strings.Builder, x term) bool {
	if !isLabel(x.label()) {
		return false
	}
	s.WriteString(x.label())
	switch x := x.(type) {
	case leaf:
		return true
	case branch:
		sign := "("
		for _, k := range x.kids {
			s.WriteString(sign)
			if !write(s, k) {
				return false
			}
			sign = ","
		}
		s.WriteString(")")
	}
	return true
}

// isLabel reports whether a text is a label, as layer 1 says.
func isLabel(s string) bool {
	isOther := func(r rune) bool {
		isLetter := r >= 'a' && r <= 'z' || r >= 'A' && r <= 'Z'
		return !isLetter && (r < '0' || r > '9') && r != '-' && r != '_' && r != '.'
	}
	return s != "" && len(s) <= api.MaxLabel && !strings.ContainsFunc(s, isOther)
}

// Read returns the tree that Write wrote.
func Read(s string) (api.Tree, api.Errno) {
	if len(s) > maxText {
		return api.Tree{}, api.ErrLarge
	}
	t, ok := read(s)
	if !ok {
		return api.Tree{}, api.ErrForm
	}
	if e := limited(Size(t)); e != api.OK {
		return api.Tree{}, e
	}
	return t, api.OK
}

// read returns the tree that a text stands for, of any size.
func read(s string) (api.Tree, bool) {
	var stack []api.Tree // the trees whose Kids are read, each one a kid of the one before
reading:
	for {
		end := strings.IndexAny(s, "(,)")
		if end < 0 {
			end = len(s)
		}
		t := api.Tree{Label: s[:end]}
		s = s[end:]
		if !isLabel(t.Label) {
			return api.Tree{}, false
		}
		if strings.HasPrefix(s, "(") {
			stack = append(stack, t)
			s = s[1:]
			continue reading
		}
		for len(stack) > 0 {
			last := len(stack) - 1
			stack[last].Kids = append(stack[last].Kids, t)
			if strings.HasPrefix(s, ",") {
				s = s[1:]
				continue reading
			}
			if !strings.HasPrefix(s, ")") {
				return api.Tree{}, false
			}
			s = s[1:]
			t = stack[last]
			stack = stack[:last]
		}
		if s != "" {
			return api.Tree{}, false
		}
		return t, true
	}
}
