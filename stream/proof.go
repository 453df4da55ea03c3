package stream

import (
	"slices"
	"strings"

	"apodixis/api"
)

// step is a step of a proof: what its label means, or a tag, counted from 1, or unknown.
type step struct {
	meaning
	tag     int
	unknown bool
	tagged  bool
}

// mayTag reports whether a Z may follow a step of a compressed proof.
func (s step) mayTag() bool { return !s.unknown && !s.tagged }

// verify returns the verdict of a proof of a frame.
func (r *Reader) verify(f *frame, proof []string) api.Verdict {
	steps, e := r.steps(f, proof)
	if e != api.OK {
		return api.Verdict{Code: e}
	}
	m := machine{frame: f, symbols: r.symbols, bound: make([]span, len(r.symbols))}
	for at, s := range steps {
		if e := m.perform(s); e != api.OK {
			return api.Verdict{Code: e, Step: at}
		}
	}
	if e := m.end(); e != api.OK {
		return api.Verdict{Code: e, Step: len(steps)}
	}
	return api.Verdict{}
}

// steps returns the steps of a proof, or its format error.
func (r *Reader) steps(f *frame, proof []string) ([]step, api.Errno) {
	l, e := []step(nil), api.OK
	if len(proof) > 0 && proof[0] == "(" {
		l, e = r.decompressed(f, proof[1:])
	} else {
		for _, w := range proof {
			l = append(l, r.step(w))
		}
	}
	if e == api.OK && len(l) > api.MaxSteps {
		e = api.ErrSteps
	}
	return l, e
}

// step returns the step that a word of a proof is.
func (r *Reader) step(w string) step {
	return step{meaning: r.labels[w], unknown: w == "?"}
}

// decompressed returns the steps of a compressed proof, given its words behind the first one.
func (r *Reader) decompressed(f *frame, words []string) ([]step, api.Errno) {
	end := slices.Index(words, ")")
	if end < 0 {
		return nil, api.ErrList
	}
	var listed []step
	seen := map[string]bool{}
	for _, h := range f.hyps {
		seen[h.label] = true
		listed = append(listed, r.step(h.label))
	}
	for _, w := range words[:end] {
		if !isLabel(w) || seen[w] {
			return nil, api.ErrList
		}
		seen[w] = true
		listed = append(listed, r.step(w))
	}
	return spelled(listed, strings.Join(words[end+1:], ""))
}

// spelled returns the steps that letters mean, whose first numbers are those of the listed steps.
func spelled(listed []step, letters string) ([]step, api.Errno) {
	var l []step
	high := 0           // what the letters of a number mean that are ahead of its last one
	most := len(listed) // the greatest number that there is so far
	for i := range len(letters) {
		switch c := letters[i]; {
		case c >= 'U' && c <= 'Y' && high <= most:
			high = 5*high + int(c-'U') + 1
		case c >= 'A' && c <= 'T' && 20*high+int(c-'A')+1 <= most:
			n := 20*high + int(c-'A') + 1
			if n <= len(listed) {
				l = append(l, listed[n-1])
			} else {
				l = append(l, step{tag: n - len(listed)})
			}
			high = 0
		case c == 'Z' && high == 0 && len(l) > 0 && l[len(l)-1].mayTag():
			l[len(l)-1].tagged = true
			most++
		case c == '?' && high == 0:
			l = append(l, step{unknown: true})
		default:
			return nil, api.ErrCode
		}
	}
	if high > 0 {
		return nil, api.ErrCode
	}
	return l, api.OK
}
