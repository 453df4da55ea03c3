package stream

import (
	"slices"
	"strconv"
	"strings"
	"testing"

	"apodixis/api"
	"apodixis/compress"
)

// list returns n copies of a text in which # stands for the number of each one.
func list(n int, s string) string {
	var b strings.Builder
	for i := range n {
		b.WriteString(strings.ReplaceAll(s, "#", strconv.Itoa(i)))
	}
	return b.String()
}

// P10.1, P10.2: each limit is reached, and then passed by one.
func TestLimits(t *testing.T) {
	const base = "$c wff |- $. "
	for name, x := range map[string]struct{ right, wrong string }{
		"bytes":                {strings.Repeat(" ", api.MaxSource), strings.Repeat(" ", api.MaxSource+1)},
		"bytes of a token":     {"$( " + strings.Repeat("x", api.MaxSource-6) + " $)", "$( " + strings.Repeat("x", api.MaxSource-5) + " $)"},
		"tokens":               {list(api.MaxTokens/2, "$( $) "), list(api.MaxTokens/2, "$( $) ") + "$("},
		"words":                {list(999, "${ $} ") + base + "t $p wff $= " + list(api.MaxTokens-2007, "? ") + "$.", list(999, "${ $} ") + base + "t $p wff $= " + list(api.MaxTokens-2006, "? ") + "$."},
		"statements":           {list(api.MaxStatements/2, "${ $} "), list(api.MaxStatements/2, "${ $} ") + "$c a $."},
		"depth":                {list(api.MaxDepth, "${ ") + list(api.MaxDepth, "$} "), list(api.MaxDepth+1, "${ ") + list(api.MaxDepth+1, "$} ")},
		"assertions":           {base + list(api.MaxFrames, "a# $a wff $. "), base + list(api.MaxFrames+1, "a# $a wff $. ")},
		"axioms and theorems":  {base + list(api.MaxFrames/2, "a# $a wff $. t# $p wff $= a# $. "), base + list(api.MaxFrames/2, "a# $a wff $. t# $p wff $= a# $. ") + "b $a wff $."},
		"constants":            {"$c " + list(api.MaxSymbols, "a# ") + "$.", "$c " + list(api.MaxSymbols+1, "a# ") + "$."},
		"variables":            {"$v " + list(api.MaxSymbols, "a# ") + "$.", "$v " + list(api.MaxSymbols+1, "a# ") + "$."},
		"disjoint ones":        {"$v " + list(api.MaxSymbols, "a# ") + "$. $v b $. $d " + list(api.MaxSymbols, "a# ") + "$.", "$v " + list(api.MaxSymbols, "a# ") + "$. $v b $. $d b " + list(api.MaxSymbols, "a# ") + "$."},
		"symbols of an axiom":  {base + "a $a " + list(api.MaxSymbols, "wff ") + "$.", base + "a $a " + list(api.MaxSymbols+1, "wff ") + "$."},
		"symbols of a premise": {base + "a $e " + list(api.MaxSymbols, "wff ") + "$.", base + "a $e " + list(api.MaxSymbols+1, "wff ") + "$."},
		"symbols of a theorem": {base + "a $p " + list(api.MaxSymbols, "wff ") + "$= $.", base + "a $p " + list(api.MaxSymbols+1, "wff ") + "$= $."},
		"premises":             {base + list(api.MaxHyps, "e# $e wff $. ") + "a $a wff $.", base + list(api.MaxHyps+1, "e# $e wff $. ") + "a $a wff $."},
		"mandatory ones":       {base + floats(api.MaxHyps) + "a $a wff " + list(api.MaxHyps, "v# ") + "$.", base + floats(api.MaxHyps+1) + "a $a wff " + list(api.MaxHyps+1, "v# ") + "$."},
		"premises and floats":  {base + floats(1) + list(api.MaxHyps-1, "e# $e wff $. ") + "a $a wff v0 $.", base + floats(1) + list(api.MaxHyps, "e# $e wff $. ") + "a $a wff v0 $."},
		"needed by premises":   {base + floats(api.MaxHyps-1) + "e $e wff " + list(api.MaxHyps-1, "v# ") + "$. a $a wff $.", base + floats(api.MaxHyps) + "e $e wff " + list(api.MaxHyps, "v# ") + "$. a $a wff $."},
		"dummies":              {base + floats(api.MaxHyps) + "a $a wff $.", base + floats(api.MaxHyps+1) + "a $a wff $."},
		"both":                 {base + floats(2*api.MaxHyps) + "a $a wff " + list(api.MaxHyps, "v# ") + "$.", base + floats(2*api.MaxHyps) + "a $a wff " + list(api.MaxHyps-1, "v# ") + "$."},
		"premises alone":       {base + list(api.MaxHyps+1, "e# $e wff $. "), base + list(api.MaxHyps+1, "e# $e wff $. ") + "a $p wff $= ? $."},
		"floats alone":         {base + floats(api.MaxHyps+1), base + floats(api.MaxHyps+1) + "a $p wff $= ? $."},
	} {
		if o := agree(t, x.right); o.refused {
			t.Errorf("%s: the limit is refused", name)
		}
		if o := agree(t, x.wrong); !o.refused {
			t.Errorf("%s: above the limit nothing is refused", name)
		}
		last := strings.LastIndex(strings.TrimRight(x.wrong, " "), " ") + 1
		feed(t, x.wrong, []int{0, last / 2, last, len(x.wrong)})
	}
}

// floats declares variables with floating hypotheses.
func floats(n int) string { return list(n, "$v v# $. f# $f wff v# $. ") }

// P10.1: limits that are passed by what is not whole yet, or by a scope that is still to be closed.
func TestLimitsAhead(t *testing.T) {
	for name, pieces := range map[string][]string{ // the last one is refused
		"bytes":                {strings.Repeat(" ", api.MaxSource-2), " $", "x"},
		"a token too many":     {list(api.MaxTokens/2, "$( $) "), "x", "yz", "\n"},
		"a scope too many":     {list(999, "${ $} ") + "${ ", "${ "},
		"no place for a Close": {list(999, "${ $} ") + "$c a $. ", "${ "},
		"too many behind it":   {list(998, "${ $} ") + "${ $c", " x", " a ", "$}", "\t"}, // no statement
		"nothing but a Close":  {list(998, "${ $} ") + "${ ${ ", "$( $) ", "$v a ", "$. "},
		"too deep":             {list(api.MaxDepth, "${ "), "${", " "},
	} {
		r := New()
		for i, piece := range pieces {
			if l, e := r.Feed(piece); l != nil || (e == ErrText) != (i == len(pieces)-1) || e != api.OK && e != ErrText {
				t.Errorf("%s, piece %d: %v, %d", name, i, l, e)
			}
		}
		text := strings.Join(pieces, "")
		feed(t, text, []int{len(text) - len(pieces[len(pieces)-1])})
	}
	r := New()
	for _, piece := range []string{list(998, "${ $} ") + "${ ${ ", "$} ", "$}"} {
		if _, e := r.Feed(piece); e != api.OK {
			t.Errorf("Feed of as many statements as there may be: %d", e)
		}
	}
	if _, e := r.Close(); e != api.OK {
		t.Errorf("Close of as many statements as there may be: %d", e)
	}
}

// P10.1: a formula of a proof has at most api.MaxFormula symbols; ErrLarge comes behind ErrMatch and ahead of ErrApart.
func TestFormulas(t *testing.T) {
	const base = "$c wff $. $v p q $. wp $f wff p $. wq $f wff q $. two $a wff p p $. cat $a wff p q $. ${ $d p q $. apart $a wff p q $. $} ${ e $e wff p p $. j $a wff p q $. $} "
	power := func(n int) []string { return strings.Fields("wp" + strings.Repeat(" two", n)) }
	sum := func(join string, powers ...int) []string {
		l := power(powers[0])
		for i, n := range powers[1:] {
			l = append(l, power(n)...)
			if i == len(powers)-2 {
				l = append(l, join)
			} else {
				l = append(l, "cat")
			}
		}
		return l
	}
	most, more := []int{10, 9, 8, 7, 6, 3, 2, 1, 0}, []int{10, 9, 8, 7, 6, 3, 2, 1, 1} // 1999 and 2000 symbols behind the typecode
	for _, x := range []struct {
		proof []string
		code  api.Errno
		ahead int // steps behind the one with the error
	}{
		{sum("cat", most...), api.ErrProves, 0},
		{sum("cat", more...), api.ErrLarge, 1},
		{sum("apart", most...), api.ErrApart, 1},
		{sum("apart", more...), api.ErrLarge, 1},
		{slices.Concat(power(10), power(10), power(9), []string{"j"}), api.ErrMatch, 1},
		{slices.Concat(power(10), power(10), power(10), []string{"j"}), api.ErrMatch, 1},
		{slices.Concat(power(10), power(10), power(10), []string{"two"}), api.ErrLarge, 1},
		{slices.Concat(power(9), power(9), power(10), []string{"j"}), api.ErrProves, 0},
		{slices.Concat(power(9), power(10), power(10), []string{"j"}), api.ErrProves, 0},
	} {
		text := base + "t $p wff p $= " + strings.Join(x.proof, " ") + " $."
		want := named("t", x.code, len(x.proof)-x.ahead)
		if l, e := Verify(text); e != api.OK || !slices.Equal(l, []Named{want}) {
			t.Errorf("Verify of %q: %v, %d, want %v", x.proof, l, e, want)
		}
		agree(t, text)
	}
}

// P10.1: disjointness with as many variables as there may be.
func TestManyVariables(t *testing.T) {
	const n = 2 * api.MaxHyps
	var all []string
	for i := range n {
		all = append(all, "v"+strconv.Itoa(i))
	}
	half := floats(n / 2)
	base := "$c wff $. " + half + "e $a wff $. ${ $d v0 v1 $. two $a wff v0 v1 $. $} " + strings.TrimPrefix(floats(n), half)
	for _, x := range []struct {
		apart, first, second string
		code                 api.Errno
	}{
		{strings.Join(all, " "), "f3", "f4", api.ErrProves},
		{strings.Join(all, " "), "f0", "f1", api.ErrProves},
		{strings.Join(all, " "), "f1", "f0", api.ErrProves},
		{strings.Join(all, " "), "f63", "f64", api.ErrProves},
		{strings.Join(all, " "), "f79", "f78", api.ErrProves},
		{strings.Join(all, " "), "f79", "f79", api.ErrApart},
		{strings.Join(all, " "), "f0", "f0", api.ErrApart},
		{strings.Join(all, " "), "e", "f0", api.ErrProves},
		{"v63 v64", "f63", "f64", api.ErrProves},
		{"v63 v64", "f64", "f63", api.ErrProves},
		{"v63 v64", "f62", "f64", api.ErrApart},
		{"v63 v64", "f63", "f65", api.ErrApart},
		{"v63 v64", "f79", "f78", api.ErrApart},
		{strings.Join(all[1:], " "), "f0", "f1", api.ErrApart},
		{strings.Join(all[:79], " "), "f78", "f79", api.ErrApart},
	} {
		proof := x.first + " " + x.second + " two "
		text := base + "${ $d " + x.apart + " $. t $p wff " + strings.Join(all[:n/2], " ") + " $= " + proof + "$. $}"
		want := named("t", x.code, 3)
		if x.code == api.ErrApart {
			want.Verdict.Step = 2
		}
		if l, e := Verify(text); e != api.OK || !slices.Equal(l, []Named{want}) {
			t.Errorf("Verify with %q, %q: %v, %d, want %v", x.apart, proof, l, e, want)
		}
		agree(t, text)
	}
}

// P10.1: all numbers that letters mean, of labels and of tags, and the first one that means nothing.
func TestNumbers(t *testing.T) {
	const labels, tags = 150, 140
	base := "$c wff " + list(labels, "d# ") + "$. " + list(labels, "a# $a wff d# $. ") + "$v p q $. wp $f wff p $. wq $f wff q $. cat $a wff p q $. "
	listed := "( " + list(labels, "a# ") + "cat ) "
	letters := func(n int) string {
		s, _ := compress.Letters(n)
		return s
	}
	check := func(n int, formula, steps string, code api.Errno) {
		t.Helper()
		text := base + "t $p wff " + formula + " $= " + listed + steps + " $."
		if l, e := Verify(text); e != api.OK || !slices.Equal(l, []Named{named("t", code, 0)}) {
			t.Errorf("number %d: %v, %d, want %d", n, l, e, code)
		}
		agree(t, text)
	}
	for n := 1; n <= labels; n++ {
		check(n, "d"+strconv.Itoa(n-1), letters(n), api.OK)
	}
	check(labels+2, "d0", letters(labels+2), api.ErrCode)
	// The proof is of the formulas of all tags, one behind the other, and of the one with the number.
	steps := letters(1) + "Z"
	for n := 2; n <= tags; n++ {
		steps += letters(n) + "Z" + letters(labels+1)
	}
	for n := 1; n <= tags; n++ {
		check(labels+1+n, list(tags, "d# ")+"d"+strconv.Itoa(n-1), steps+letters(labels+1+n)+letters(labels+1), api.OK)
	}
	check(labels+tags+2, "d0", steps+letters(labels+tags+2)+letters(labels+1), api.ErrCode)
}
