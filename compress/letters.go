package compress

import (
	"iter"

	"apodixis/api"
)

// maxLetters is how many letters MaxNumber has.
const maxLetters = 8

// Letters returns the letters of a number from 1 to MaxNumber.
func Letters(n int) (string, api.Errno) {
	if n < 1 || n > MaxNumber {
		return "", api.ErrRange
	}
	var letters [maxLetters]byte
	at := maxLetters - 1
	letters[at] = 'A' + byte((n-1)%20)
	for r := (n - 1) / 20; r > 0; r = (r - 1) / 5 {
		at--
		letters[at] = 'U' + byte((r-1)%5)
	}
	return string(letters[at:]), api.OK
}

// Numbers returns the numbers of letters; with an error, the index of a byte.
func Numbers(s string) ([]int, int, api.Errno) {
	if len(s) > api.MaxSource {
		return nil, 0, api.ErrSize
	}
	var l []int
	for n, ok := range decode(s) {
		if !ok {
			return nil, n, api.ErrCode
		}
		l = append(l, n)
	}
	return l, 0, api.OK
}

// decode yields the numbers of letters; at a byte that is not possible it yields the index of this, with false, and ends.
func decode(s string) iter.Seq2[int, bool] {
	return func(yield func(int, bool) bool) {
		high, last := 0, Save // as behind a Save, none may come first
		for i := range len(s) {
			n := 0
			switch c := s[i]; {
			case c >= 'A' && c <= 'T':
				n = high*20 + int(c-'A') + 1
			case c >= 'U' && c <= 'Y':
				high = high*5 + int(c-'U') + 1
				if high > MaxNumber {
					yield(i, false)
					return
				}
				continue
			case c == 'Z' && high == 0 && last > 0:
				n = Save
			case c == '?' && high == 0:
				n = Unknown
			default:
				yield(i, false)
				return
			}
			if n > MaxNumber {
				yield(i, false)
				return
			}
			if !yield(n, true) {
				return
			}
			high, last = 0, n
		}
		if high > 0 {
			yield(len(s), false)
		}
	}
}
