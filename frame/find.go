package frame

import (
	"iter"
	"slices"

	"apodixis/api"
)

// Find returns the index of the frame with a label, or -1.
func Find(db api.Database, label string) int {
	return slices.IndexFunc(db.Frames, func(f api.Frame) bool { return f.Label == label })
}

// Hyp returns a hypothesis, mandatory or not, that a frame's proof may use.
func Hyp(f api.Frame, label string) (api.Hyp, bool) {
	for h := range hyps(f) {
		if h.Label == label {
			return copied(h), true
		}
	}
	return api.Hyp{}, false
}

// Type returns the typecode of a variable, or an empty string.
func Type(db api.Database, variable string) string {
	for _, f := range db.Frames {
		for h := range hyps(f) {
			if h.Floating && len(h.Text) == 2 && h.Text[1] == variable {
				return h.Text[0]
			}
		}
	}
	return ""
}

// hyps yields the hypotheses of a frame; with each one, whether it is among its Dummies.
func hyps(f api.Frame) iter.Seq2[api.Hyp, bool] {
	return func(yield func(api.Hyp, bool) bool) {
		for _, h := range f.Hyps {
			if !yield(h, false) {
				return
			}
		}
		for _, h := range f.Dummies {
			if !yield(h, true) {
				return
			}
		}
	}
}

// IsVariable reports whether a symbol is a variable of a database.
func IsVariable(db api.Database, symbol string) bool {
	return slices.Contains(db.Variables, symbol)
}

// Mandatory returns the variables that occur in formulas, in the order of their first occurrence.
func Mandatory(db api.Database, l [][]string) []string {
	wanted := map[string]bool{}
	for _, v := range db.Variables {
		wanted[v] = true
	}
	var found []string
	for _, text := range l {
		for _, s := range text {
			if wanted[s] {
				wanted[s] = false
				found = append(found, s)
			}
		}
	}
	return found
}

// Equal reports whether two databases are equal in all fields.
func Equal(a, b api.Database) bool {
	return slices.Equal(a.Constants, b.Constants) &&
		slices.Equal(a.Variables, b.Variables) &&
		slices.EqualFunc(a.Frames, b.Frames, sameFrame)
}

func sameFrame(f, g api.Frame) bool {
	return f.Label == g.Label && f.Theorem == g.Theorem &&
		slices.EqualFunc(f.Hyps, g.Hyps, sameHyp) &&
		slices.Equal(f.Apart, g.Apart) &&
		slices.Equal(f.Text, g.Text) &&
		slices.EqualFunc(f.Dummies, g.Dummies, sameHyp) &&
		slices.Equal(f.Wide, g.Wide) &&
		slices.Equal(f.Proof, g.Proof)
}

func sameHyp(h, k api.Hyp) bool {
	return h.Label == k.Label && h.Floating == k.Floating && slices.Equal(h.Text, k.Text)
}

func sameLabel(h, k api.Hyp) bool { return h.Label == k.Label }

// essential returns the essential hypotheses of a frame.
func essential(f api.Frame) []api.Hyp {
	var l []api.Hyp
	for _, h := range f.Hyps {
		if !h.Floating {
			l = append(l, h)
		}
	}
	return l
}

// common returns the longest common beginning of two lists of hypotheses, by their labels.
func common(a, b []api.Hyp) []api.Hyp {
	n := min(len(a), len(b))
	for !slices.EqualFunc(a[:n:n], b[:n:n], sameLabel) {
		n--
	}
	return a[:n:n]
}
