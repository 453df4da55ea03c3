package token

// class is what a byte may be a part of.
type class uint8

const (
	bad    class = iota // nothing
	space               // a gap
	letter              // a label, and thus a math symbol
	sign                // a math symbol that is not a label
	dollar              // a keyword, or a token of no kind
)

// classes returns the class of each byte, for those who ask for many.
func classes() [256]class {
	var table [256]class
	for i := range table {
		table[i] = classOf(byte(i))
	}
	return table
}

func classOf(b byte) class {
	switch b {
	case ' ', '\t', '\r', '\n', '\f':
		return space
	case '$':
		return dollar
	case '-', '_', '.':
		return letter
	}
	switch {
	case b >= '0' && b <= '9', b >= 'A' && b <= 'Z', b >= 'a' && b <= 'z':
		return letter
	case b > ' ' && b <= '~':
		return sign
	}
	return bad
}

// consists reports whether each byte of s is of a class that is good.
func consists(s string, good func(class) bool) bool {
	for i := range len(s) {
		if !good(classOf(s[i])) {
			return false
		}
	}
	return true
}
