package stream

import "apodixis/api"

// assertion is what a step of a proof needs of an assertion.
type assertion struct {
	hyps  []*hypothesis
	apart [][2]int // pairs of indices of floating hypotheses, whose variables are disjoint
	text  []int
}

// frame is an assertion, and what its own proof may need. The variables with an active floating hypothesis have places from 1 on.
type frame struct {
	assertion
	places []int // by the numbers of symbols; 0 of all others
	wide   []set // for each place those of the variables that are disjoint from its variable
}

// set is a set of places, of which a frame has at most twice api.MaxHyps.
type set [2*api.MaxHyps/64 + 1]uint64

func (s *set) add(place int) { s[place/64] |= 1 << (place % 64) }

func (s *set) remove(place int) { s[place/64] &^= 1 << (place % 64) }

func (s *set) has(place int) bool { return s[place/64]>>(place%64)&1 == 1 }

func (s *set) join(t set) {
	for i := range s {
		s[i] |= t[i]
	}
}

// isWithin reports whether t has all places of s.
func (s *set) isWithin(t set) bool {
	for i := range s {
		if s[i]&^t[i] != 0 {
			return false
		}
	}
	return true
}

// frame returns the frame of an assertion with this formula at the place that is being read.
func (r *Reader) frame(text []int) *frame {
	needed := r.needed(text)
	f := &frame{assertion: assertion{text: text}, places: make([]int, len(r.symbols))}
	floats, dummies := 0, 0
	for _, h := range r.active {
		if h.floating {
			floats++
			f.places[h.text[1]] = floats
		}
		if h.floating && !needed[h.text[1]] {
			dummies++
			continue
		}
		f.hyps = append(f.hyps, h)
	}
	if len(f.hyps) > api.MaxHyps || dummies > api.MaxHyps {
		refuse()
	}
	f.wide = make([]set, floats+1)
	for _, l := range r.disjoint {
		f.separate(l)
	}
	f.apart = f.mandatory()
	return f
}

// needed returns the variables of a formula and of the active essential hypotheses.
func (r *Reader) needed(text []int) map[int]bool {
	needed := map[int]bool{}
	add := func(text []int) {
		for _, s := range text {
			if !r.symbols[s].constant {
				needed[s] = true
			}
		}
	}
	add(text)
	for _, h := range r.active {
		if !h.floating {
			add(h.text)
		}
	}
	return needed
}

// separate makes the variables of a statement of disjointness disjoint.
func (f *frame) separate(variables []int) {
	var all set
	for _, v := range variables {
		if f.places[v] > 0 {
			all.add(f.places[v])
		}
	}
	for _, v := range variables {
		if at := f.places[v]; at > 0 {
			f.wide[at].join(all)
			f.wide[at].remove(at)
		}
	}
}

// mandatory returns the pairs of floating hypotheses of the assertion whose variables are disjoint.
func (f *frame) mandatory() [][2]int {
	var l [][2]int
	for j, h := range f.hyps {
		for i, g := range f.hyps[:j] {
			if g.floating && h.floating && f.wide[f.places[g.text[1]]].has(f.places[h.text[1]]) {
				l = append(l, [2]int{i, j})
			}
		}
	}
	return l
}
