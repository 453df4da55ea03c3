package frame

import (
	"slices"

	"apodixis/api"
)

// Floats returns the floating hypotheses of a settled database, in their order.
func Floats(db api.Database) ([]api.Hyp, api.Errno) {
	if e := Check(db); e != api.OK {
		return nil, e
	}
	floats, ok := shared(db)
	if !ok {
		return nil, api.ErrState
	}
	l, ok := ordered(db, floats)
	if !ok {
		return nil, api.ErrState
	}
	return l, api.OK
}

// Settled reports whether each variable has exactly one floating hypothesis, which is active for all frames.
func Settled(db api.Database) bool {
	_, e := Floats(db)
	return e == api.OK
}

// shared returns the floating hypotheses by their variables, if each frame of a right database has the same one of each variable, and none behind an essential one.
func shared(db api.Database) (map[string]api.Hyp, bool) {
	floats := map[string]api.Hyp{}
	for i, f := range db.Frames {
		count, hasEssential := 0, false
		for h, isDummy := range hyps(f) {
			if !h.Floating {
				hasEssential = true
				continue
			}
			if hasEssential && !isDummy {
				return nil, false
			}
			count++
			v := h.Text[1]
			if i == 0 {
				floats[v] = h
			}
			if floats[v].Label != h.Label {
				return nil, false
			}
		}
		if count != len(db.Variables) {
			return nil, false
		}
	}
	return floats, len(db.Frames) > 0 || len(db.Variables) == 0
}

// ordered returns the floating hypotheses in the first order that all frames have, if there is one.
func ordered(db api.Database, floats map[string]api.Hyp) ([]api.Hyp, bool) {
	ahead := map[string][]string{} // the variables right ahead of each one
	for _, f := range db.Frames {
		for _, l := range [2][]api.Hyp{f.Hyps, f.Dummies} {
			for i, h := range l {
				if i > 0 && h.Floating && !slices.Contains(ahead[h.Text[1]], l[i-1].Text[1]) {
					ahead[h.Text[1]] = append(ahead[h.Text[1]], l[i-1].Text[1])
				}
			}
		}
	}
	var l []api.Hyp
	taken := map[string]bool{}
	isFree := func(v string) bool {
		return !taken[v] && !slices.ContainsFunc(ahead[v], func(u string) bool { return !taken[u] })
	}
search:
	for len(l) < len(db.Variables) {
		for _, v := range db.Variables {
			if isFree(v) {
				taken[v] = true
				l = append(l, copied(floats[v]))
				continue search
			}
		}
		return nil, false
	}
	return l, true
}

// Statements returns statements whose database is the given one; it has to be settled.
func Statements(db api.Database) ([]api.Statement, api.Errno) {
	floats, e := Floats(db)
	if e != api.OK {
		return nil, e
	}
	l := declarations(api.Constants, db.Constants)
	l = append(l, declarations(api.Variables, db.Variables)...)
	for _, h := range floats {
		l = append(l, api.Statement{Kind: api.Floating, Label: h.Label, Text: h.Text})
	}
	var before []api.Hyp
	for _, f := range db.Frames {
		premises := essential(f)
		kept := len(common(before, premises))
		l = closed(l, len(before)-kept)
		for _, h := range premises[kept:] {
			l = append(l, api.Statement{Kind: api.Open})
			l = append(l, api.Statement{Kind: api.Essential, Label: h.Label, Text: slices.Clone(h.Text)})
		}
		l = append(l, assertion(f)...)
		before = premises
	}
	l = closed(l, len(before))
	if len(l) > api.MaxStatements {
		return nil, api.ErrFull
	}
	return l, api.OK
}

// declarations returns as few statements with these symbols as possible.
func declarations(kind int, symbols []string) []api.Statement {
	var l []api.Statement
	for text := range slices.Chunk(symbols, api.MaxSymbols) {
		l = append(l, api.Statement{Kind: kind, Text: slices.Clone(text)})
	}
	return l
}

// closed returns statements with as many Close statements behind them.
func closed(l []api.Statement, count int) []api.Statement {
	for range count {
		l = append(l, api.Statement{Kind: api.Close})
	}
	return l
}

// assertion returns the statement of a frame, in a scope with its disjointness, if it has any.
func assertion(f api.Frame) []api.Statement {
	s := api.Statement{Kind: api.Axiom, Label: f.Label, Text: slices.Clone(f.Text), Proof: slices.Clone(f.Proof)}
	if f.Theorem {
		s.Kind = api.Theorem
	}
	if len(f.Wide) == 0 {
		return []api.Statement{s}
	}
	l := []api.Statement{{Kind: api.Open}}
	for _, p := range f.Wide {
		l = append(l, api.Statement{Kind: api.Disjoint, Text: []string{p.A, p.B}})
	}
	return append(l, s, api.Statement{Kind: api.Close})
}
