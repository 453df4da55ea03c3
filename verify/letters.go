package verify

import (
	"iter"
	"slices"

	"apodixis/api"
	"apodixis/token"
)

// maxNumber is the greatest number that letters may mean.
const maxNumber = 1000000

// Letter is a step of a compressed proof: the number that its letters mean, from 1 on, 0 for an unknown step; Tagged, if a Z follows.
type Letter struct {
	Number int
	Tagged bool
}

// found is the verdict with which an examination leaves, from wherever it is found.
type found api.Verdict

// reject leaves with a format error.
func reject(e api.Errno) { panic(found{Code: e}) }

// attempt does some work, and returns the verdict with which it left, if it did.
func attempt(work func()) (v api.Verdict, left bool) {
	v, left = api.Verdict{Code: api.ErrState}, true // whatever else stops the work, it does not end as OK
	defer func() {
		if f, ok := recover().(found); ok {
			v = api.Verdict(f)
		}
	}()
	work()
	return api.Verdict{}, false
}

// Letters returns the labels in brackets and the steps of a compressed proof.
func Letters(proof []string) (labels []string, l []Letter, e api.Errno) {
	if !isCompressed(proof) {
		return nil, nil, api.ErrForm
	}
	v, left := attempt(func() {
		between, words := divide(proof)
		labels, l = slices.Clone(between), slices.Collect(letters(words))
		limit(len(l))
	})
	if left {
		return nil, nil, v.Code
	}
	return labels, l, api.OK
}

func isCompressed(proof []string) bool { return len(proof) > 0 && proof[0] == "(" }

// divide returns the labels of a compressed proof, and the words with its letters.
func divide(proof []string) (labels, words []string) {
	end := slices.Index(proof, ")")
	if end < 0 {
		reject(api.ErrList)
	}
	labels = proof[1:end]
	seen := map[string]bool{}
	for _, s := range labels {
		if !token.IsLabel(s) || seen[s] {
			reject(api.ErrList)
		}
		seen[s] = true
	}
	return labels, proof[end+1:]
}

// limit rejects a proof with too many steps.
func limit(steps int) {
	if steps > api.MaxSteps {
		reject(api.ErrSteps)
	}
}

// letters yields the steps that letters mean, and rejects letters that mean none.
func letters(words []string) iter.Seq[Letter] {
	return func(yield func(Letter) bool) {
		var last Letter // not yielded yet, as a Z may follow
		count, high := 0, 0
		pass := func(next Letter) bool {
			count++
			behind := last
			last = next
			return count == 1 || yield(behind)
		}
		for c := range characters(words) {
			switch {
			case c >= 'A' && c <= 'T':
				n := within(high*20 + int(c-'A') + 1)
				high = 0
				if !pass(Letter{Number: n}) {
					return
				}
			case c >= 'U' && c <= 'Y':
				high = within(high*5 + int(c-'U') + 1)
			case c == 'Z' && high == 0 && last.Number > 0 && !last.Tagged:
				last.Tagged = true
			case c == '?' && high == 0:
				if !pass(Letter{}) {
					return
				}
			default:
				reject(api.ErrCode)
			}
		}
		if high > 0 {
			reject(api.ErrCode)
		}
		if count > 0 {
			yield(last)
		}
	}
}

// characters yields the bytes of words, which are read as one text.
func characters(words []string) iter.Seq[byte] {
	return func(yield func(byte) bool) {
		for _, w := range words {
			for i := range len(w) {
				if !yield(w[i]) {
					return
				}
			}
		}
	}
}

// within returns a number that is not too great, and rejects another one.
func within(n int) int {
	if n > maxNumber {
		reject(api.ErrCode)
	}
	return n
}
