package deduct

import (
	"slices"

	"apodixis/fault"
	"apodixis/natural"
)

// lifting lifts lines over their last hypothesis h. The functions return the numbers of what they append: plain that of a line itself, over that of h -> its formula.
type lifting struct {
	writer
	lines   []Line
	h       natural.Formula
	depends []bool
	plain   func(n int) int
	over    func(n int) int
}

// remembered returns a function that does its work once for each number.
func remembered(work func(n int) int) func(n int) int {
	known := map[int]int{}
	return func(n int) int {
		result, ok := known[n]
		if !ok {
			result = work(n)
			known[n] = result
		}
		return result
	}
}

// lift returns the lines that prove that the last one of hyps implies the last one of lines.
func lift(l fields, lines []Line, hyps []natural.Formula) []Line {
	last := len(hyps) - 1
	x := &lifting{writer: writer{fields: l}, lines: lines, h: hyps[last], depends: dependent(lines, last)}
	x.plain, x.over = remembered(x.keep), remembered(x.imply)
	x.over(len(lines) - 1)
	return x.writer.lines
}

// dependent tells which lines need a hypothesis.
func dependent(lines []Line, hyp int) []bool {
	l := make([]bool, len(lines))
	for n, x := range lines {
		if x.Label == "" {
			l[n] = x.From[0] == hyp
		} else {
			l[n] = slices.ContainsFunc(x.From, func(from int) bool { return l[from] })
		}
	}
	return l
}

// keep appends a line behind those that it needs.
func (x *lifting) keep(n int) int { return x.push(x.lines[n].moved(x.plain)) }

// imply appends what h implies.
func (x *lifting) imply(n int) int {
	line := x.lines[n]
	f := line.Formula
	isMp := x.fields.of(line.Label) == mp
	switch {
	case line.Label == "" && x.depends[n]:
		return x.same(x.h)
	case !x.depends[n] && !(isMp && f.Kind == natural.False):
		return x.behind(x.h, x.plain(n))
	case isMp:
		g := x.lines[line.From[0]].Formula
		major := x.over(line.From[1])
		minor := x.over(line.From[0])
		step := x.mp(major, x.axiom(frege, x.h, g, f))
		return x.mp(minor, step)
	}
	return x.generalize(line)
}

// generalize appends what h implies, of a line of Gen.
func (x *lifting) generalize(line Line) int {
	_, occurs := slices.BinarySearch(natural.Free(x.h), line.Name)
	fault.Require(!occurs, ErrFragment)
	f, part := line.Formula, line.Formula.Parts[0]
	all := built("Ap", x.h) // h has no variable of the binder
	step := x.over(line.From[0])
	step = x.add(gen, built("A>pq", x.h, part), line.Name, step)
	step = x.mp(step, x.axiom(dist, x.h, part))
	step = x.behind(x.h, step)
	step = x.mp(step, x.axiom(frege, x.h, all, f))
	return x.mp(x.axiom(vacuous, x.h), step)
}
