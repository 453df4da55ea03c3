package minimize

import (
	"slices"
	"strconv"
	"strings"
	"testing"

	"apodixis/api"
	"apodixis/compress"
	"apodixis/frame"
	"apodixis/layout"
	"apodixis/stream"
	"apodixis/verify"
)

// proof returns the graph that a text has: labels, and numbers in brackets.
func proof(s string) api.Proof {
	var p api.Proof
	for _, word := range strings.Fields(s) {
		label, args, _ := strings.Cut(strings.TrimSuffix(word, ")"), "(")
		x := api.Step{Label: label}
		for _, a := range strings.FieldsFunc(args, func(r rune) bool { return r == ',' }) {
			n, _ := strconv.Atoi(a)
			x.Args = append(x.Args, n)
		}
		p.Steps = append(p.Steps, x)
	}
	return p
}

// written returns the texts of changes, such as "3 1 4:2" (Shared) or "3 b 0 4:2" (Replaced).
func written(l []Change) string {
	var s []string
	for _, c := range l {
		x := strconv.Itoa(c.Step)
		if c.Reason == Replaced {
			x += " " + c.Label
		}
		for _, a := range c.Args {
			x += " " + strconv.Itoa(a)
		}
		s = append(s, x+" "+strconv.Itoa(c.Before)+":"+strconv.Itoa(c.After))
	}
	return strings.Join(s, "; ")
}

// round has rules from one formula to another one, and a theorem of q.
const round = `$c |- p q r $. a $a |- p $. ${ b1 $e |- p $. b $a |- q $. $} ${ c1 $e |- q $. c $a |- r $. $} ${ d1 $e |- r $. d $a |- q $. $} `

// P24.1: changes, sizes and minimized proofs by hand.
func TestMinimize(t *testing.T) {
	const four = "${ f1 $e |- p $. f2 $e |- q $. f3 $e |- p $. f4 $e |- q $. four $a |- r $. $} "
	const five = "${ g1 $e |- p $. g2 $e |- p $. g3 $e |- p $. g4 $e |- p $. g5 $e |- p $. five $a |- r $. $} "
	const th = "th $p |- q $= ? $."
	const thr = "th $p |- r $= ? $."
	for name, x := range map[string]struct {
		s, proof        string
		changes, result string // of the last step, and the whole way
		small           string
	}{
		"the chapter's example": {round + th, "a b(0) c(1) d(2)", "3 1 4:2; 3 b 0 4:2", "3 1 4:2", "a b(0)"},
		"nothing to do":         {round + th, "a b(0)", "", "", "a b(0)"},
		"a step that is no use": {round + th, "a a b(0)", "", "", "a a b(0)"},
		"use of such a step":    {round + th, "a b(0) a b(2) c(3) d(4)", "5 1 4:2; 5 b 0 4:2", "5 1 4:2", "a b(0)"},
		"an assertion at the end": {round + "at $a |- q $. " + th, "a b(0) c(1) d(2)",
			"3 1 4:2; 3 b 0 4:2; 3 at 4:1", "3 at 4:1", "at"},
		"what stands behind":   {round + th + " at $a |- q $.", "a b(0) c(1) d(2)", "3 1 4:2; 3 b 0 4:2", "3 1 4:2", "a b(0)"},
		"a premise":            {round + "${ e $e |- q $. " + th + " $}", "a b(0) c(1) e d(2)", "4 1 4:2; 4 b 0 4:2", "4 1 4:2", "a b(0)"},
		"the first of three":   {round + "${ e $e |- q $. " + th + " $}", "e a b(1) c(2) d(3)", "4 0 4:1; 4 b 1 4:2", "4 0 4:1", "e"},
		"as good as it was":    {round + "at $a |- p $. " + th, "a b(0)", "", "", "a b(0)"},
		"the earlier step":     {round + four + thr, "a b(0) a b(2) four(0,1,2,3)", "4 c 1 5:3; 4 four 0 1 0 1 5:3", "4 c 1 5:3", "a b(0) c(1)"},
		"four hypotheses":      {round + four + thr, "a b(0) a c(1) d(3) c(4)", "5 3 5:3; 5 c 1 5:3; 5 four 0 1 0 1 5:3", "4 1 5:3", "a b(0) c(1)"},
		"five hypotheses":      {round + five + thr, "a b(0) a c(1) d(3) c(4)", "5 3 5:3; 5 c 1 5:3", "4 1 5:3", "a b(0) c(1)"},
		"the least number":     {round + th, "a b(0) c(1) d(2) c(3) d(4)", "5 1 6:2; 5 b 0 6:2; 5 d 2 6:4", "5 1 6:2", "a b(0)"},
		"one behind the other": {round + four + thr, "a a b(0) a b(3) four(0,2,1,4)", "5 c 2 6:3; 5 four 0 2 0 2 6:3", "5 c 2 6:3", "a b(0) c(1)"},
	} {
		db := database(t, x.s)
		i := frame.Find(db, "th")
		p := proof(x.proof)
		l, e := Changes(db, i, p, len(p.Steps)-1)
		if e != api.OK || written(l) != x.changes {
			t.Errorf("%s: the changes %s, %d, want %s", name, written(l), e, x.changes)
		}
		q, l, e := Minimize(db, i, p, 10)
		if e != api.OK || written(l) != x.result || !sameProof(q, proof(x.small)) {
			t.Errorf("%s: %v by %s, %d, want %s by %s", name, q, written(l), e, x.small, x.result)
		}
		if n, e := Check(db, i, p, q, l); n != len(l) || e != api.OK {
			t.Errorf("%s: Check: %d, %d", name, n, e)
		}
	}
}

// P24.1: disjointness, which depends on the theorem's.
func TestDisjointness(t *testing.T) {
	const floats = `$c set wff |- T. A. $. $v x y ph ps $. vx $f set x $. vy $f set y $. wph $f wff ph $. wps $f wff ps $. tru $a wff T. $. al $a wff A. x ph $. `
	const rules = `${ $d x ph $. free $a |- A. x ph $. $} ${ l1 $e |- A. x ph $. l2 $a |- A. x ph $. $} ${ l3 $e |- A. y ph $. l4 $e wff ps $. slow $a |- A. y ph $. $} `
	const best, last = "5 2 5:1; ", "5 l2 0 1 2 5:4"
	for pairs, free := range map[string]string{"": "", "$d x y $.": "", "$d y ph $.": "", "$d x ph $.": "5 free 0 1 5:3; ", "$d x y ph $.": "5 free 0 1 5:3; "} {
		db := database(t, floats+rules+"${ "+pairs+" e $e |- A. x ph $. f $e |- A. y ps $. th $p |- A. x ph $= ? $. $}")
		i := frame.Find(db, "th")
		p := proof("vx wph e f l2(0,1,2) l2(0,1,4)")
		if l, e := Changes(db, i, p, 5); e != api.OK || written(l) != best+free+last {
			t.Errorf("%q: %s, %d, want %s", pairs, written(l), e, best+free+last)
		}
		c := Change{Replaced, 5, "free", []int{0, 1}, 5, 3}
		if q, e := Apply(db, i, p, c); (e == api.OK) != (free != "") || e != api.OK && e != ErrChange || e == api.OK && !sameProof(q, proof("vx wph free(0,1)")) {
			t.Errorf("%q: %v, %d", pairs, q, e)
		}
	}
}

// P24.1: the errors of proofs, in their order, for all functions with a database.
func TestErrors(t *testing.T) {
	db := database(t, round+"th $p |- q $= a b $. late $a |- q $.")
	const th = 4
	right := proof("a b(0) c(1) d(2)")
	long := api.Proof{Steps: slices.Repeat([]api.Step{{Label: "?"}}, api.MaxSteps+1)}
	for name, x := range map[string]struct {
		db   api.Database
		i    int
		p    api.Proof
		want api.Errno
	}{
		"a wrong database":       {api.Database{Constants: []string{"$"}}, 9, long, api.ErrForm},
		"nothing":                {api.Database{}, 0, right, api.ErrNone},
		"below 0":                {db, -1, long, api.ErrNone},
		"behind the last one":    {db, len(db.Frames), long, api.ErrNone},
		"no steps":               {db, th, api.Proof{}, api.ErrSize},
		"too many steps":         {db, th, long, api.ErrSize},
		"an Arg below 0":         {db, th, proof("a b(-1)"), api.ErrRange},
		"an Arg that is itself":  {db, th, proof("? b(1)"), api.ErrRange},
		"an unknown step":        {db, th, proof("? a b(1)"), api.ErrState},
		"another formula":        {db, th, proof("a"), api.ErrState},
		"what stands behind":     {db, th, proof("late"), api.ErrState},
		"the theorem itself":     {db, th, proof("th"), api.ErrState},
		"a wrong step, not used": {db, th, proof("a c(0) b(0)"), api.ErrState},
		"right":                  {db, th, right, api.OK},
		"of an axiom":            {db, 5, right, api.OK},
	} {
		bad := x.want != api.OK
		wrong := Change{Reason: 9, Step: 99}
		if l, e := Changes(x.db, x.i, x.p, 3); e != x.want || bad != (l == nil) {
			t.Errorf("%s: Changes: %v, %d, want %d", name, l, e, x.want)
		}
		if _, e := Changes(x.db, x.i, x.p, -1); bad && e != x.want || !bad && e != api.ErrRange {
			t.Errorf("%s: Changes of no step: %d, want %d", name, e, x.want)
		}
		if q, e := Apply(x.db, x.i, x.p, wrong); bad && e != x.want || !bad && e != api.ErrArg || len(q.Steps) > 0 {
			t.Errorf("%s: Apply: %v, %d, want %d", name, q, e, x.want)
		}
		if q, l, e := Minimize(x.db, x.i, x.p, 9); e != x.want || bad != (len(q.Steps) == 0) || bad && l != nil {
			t.Errorf("%s: Minimize: %v, %v, %d, want %d", name, q, l, e, x.want)
		}
		for _, l := range [][]Change{nil, {wrong}} {
			want := x.want
			if !bad && l != nil {
				want = api.ErrArg
			}
			if n, e := Check(x.db, x.i, x.p, x.p, l); e != want || n != 0 {
				t.Errorf("%s: Check: %d, %d, want %d", name, n, e, want)
			}
		}
	}
}

// P24.1: changes that do not hold, and their errors in order.
func TestApply(t *testing.T) {
	db := database(t, round+`${ f1 $e |- p $. f2 $e |- p $. f3 $e |- p $. f4 $e |- p $. f5 $e |- p $. five $a |- q $. $}
${ e $e |- p $. th $p |- q $= ? $. $} late $a |- q $.`)
	i := frame.Find(db, "th")
	p := proof("a e b(1) c(2) d(3)")
	for name, x := range map[string]struct {
		c    Change
		want string // a proof, or an error
	}{
		"shared":               {Change{Shared, 4, "", []int{2}, 4, 2}, "e b(0)"},
		"replaced":             {Change{Replaced, 4, "b", []int{0}, 4, 2}, "a b(0)"},
		"not the first":        {Change{Replaced, 4, "b", []int{1}, 4, 2}, "e b(0)"},
		"more hypotheses":      {Change{Replaced, 4, "five", []int{1, 0, 1, 1, 1}, 4, 3}, "a e five(1,0,1,1,1)"},
		"no reason":            {Change{0, -1, "", []int{2}, 4, 2}, "1"},
		"a third reason":       {Change{3, 9, "", []int{2}, 4, 2}, "1"},
		"a step below 0":       {Change{Shared, -1, "x", nil, 0, 0}, "3"},
		"a step too many":      {Change{Replaced, 5, "x", nil, 0, 0}, "3"},
		"a Label more":         {Change{Shared, 4, "b", []int{2}, 4, 2}, "260"},
		"no Args":              {Change{Shared, 4, "", nil, 4, 2}, "260"},
		"two Args":             {Change{Shared, 4, "", []int{2, 2}, 4, 2}, "260"},
		"an Arg below 0":       {Change{Shared, 4, "", []int{-1}, 4, 2}, "260"},
		"the step itself":      {Change{Shared, 4, "", []int{4}, 4, 4}, "260"},
		"a later step":         {Change{Shared, 2, "", []int{4}, 4, 2}, "260"},
		"another formula":      {Change{Shared, 4, "", []int{1}, 4, 1}, "260"},
		"another Before":       {Change{Shared, 4, "", []int{2}, 5, 2}, "260"},
		"another After":        {Change{Shared, 4, "", []int{2}, 4, 3}, "260"},
		"not shorter":          {Change{Replaced, 4, "d", []int{3}, 4, 4}, "260"},
		"as long":              {Change{Replaced, 2, "b", []int{0}, 4, 4}, "260"},
		"of no use":            {Change{Replaced, 0, "a", nil, 4, 4}, "260"},
		"no Label":             {Change{Replaced, 4, "", nil, 4, 1}, "260"},
		"a premise":            {Change{Replaced, 1, "e", nil, 4, 4}, "260"},
		"what stands behind":   {Change{Replaced, 4, "late", nil, 4, 1}, "260"},
		"the theorem":          {Change{Replaced, 4, "th", []int{0}, 4, 2}, "260"},
		"an Arg less":          {Change{Replaced, 4, "b", nil, 4, 1}, "260"},
		"an Arg more":          {Change{Replaced, 4, "b", []int{0, 0}, 4, 2}, "260"},
		"very many Args":       {Change{Replaced, 4, "b", make([]int, 50), 4, 2}, "260"},
		"an Arg that is later": {Change{Replaced, 2, "b", []int{3}, 4, 4}, "260"},
		"Args below 0":         {Change{Replaced, 4, "b", []int{-1}, 4, 2}, "260"},
		"a wrong premise":      {Change{Replaced, 4, "b", []int{2}, 4, 3}, "260"},
		"a wrong conclusion":   {Change{Replaced, 4, "c", []int{2}, 4, 3}, "260"},
	} {
		before := slices.Clone(p.Steps)
		q, e := Apply(db, i, p, x.c)
		if code, err := strconv.Atoi(x.want); err == nil && (e != api.Errno(code) || len(q.Steps) > 0) || err != nil && (e != api.OK || !sameProof(q, proof(x.want))) {
			t.Errorf("%s: %v, %d, want %s", name, q, e, x.want)
		}
		if !slices.EqualFunc(p.Steps, before, isSame) {
			t.Fatalf("%s: the proof has become %v", name, p)
		}
	}
	// A step that is not needed may not be changed: nothing would become shorter.
	if l, e := Changes(db, i, p, 0); e != api.OK || l != nil {
		t.Errorf("%v, %d", l, e)
	}
}

// P24.4: Check tells the first change that does not hold, and accepts no other result.
func TestCheck(t *testing.T) {
	db := database(t, `$c wff ( -> ) $. $v p q $. wp $f wff p $. wq $f wff q $. wi $a wff ( p -> q ) $. th $p wff ( ( p -> q ) -> ( p -> q ) ) $= wp wq wi wp wq wi wi $.`)
	p := proof("wp wq wi(0,1) wp wq wi(3,4) wi(2,5)")
	q, l, e := Minimize(db, 1, p, 9)
	if e != api.OK || written(l) != "5 2 7:4" || !sameProof(q, proof("wp wq wi(0,1) wi(2,2)")) {
		t.Fatalf("%v by %s, %d", q, written(l), e)
	}
	slow := []Change{{Shared, 3, "", []int{0}, 7, 6}, {Shared, 3, "", []int{1}, 6, 5}, {Shared, 3, "", []int{2}, 5, 4}}
	wrong := slices.Clone(slow)
	wrong[1].Step = 4
	other := proof("wp wq wi(0,1) wi(2,2)")
	other.Steps[3].Args = []int{2, 1}
	for name, x := range map[string]struct {
		q    api.Proof
		l    []Change
		n    int
		want api.Errno
	}{
		"as it was minimized":  {q, l, 1, api.OK},
		"another way":          {q, slow, 3, api.OK},
		"a part of the way":    {q, slow[:2], 2, ErrResult},
		"no result":            {api.Proof{}, slow, 3, ErrResult},
		"another Arg":          {other, slow, 3, ErrResult},
		"another Label":        {proof("wp wp wi(0,1) wi(2,2)"), slow, 3, ErrResult},
		"a step more":          {proof("wp wq wi(0,1) wi(2,2) wp"), slow, 3, ErrResult},
		"the second is wrong":  {q, wrong, 1, ErrChange},
		"the second again":     {q, []Change{slow[0], slow[0], {}}, 1, ErrChange},
		"no reason behind":     {q, []Change{slow[0], {}}, 1, api.ErrArg},
		"no step behind":       {q, []Change{slow[0], slow[1], {Reason: 1, Step: 6}}, 2, api.ErrRange},
		"no changes":           {p, nil, 0, api.OK},
		"no changes, but made": {q, nil, 0, ErrResult},
		"of a wrong result":    {api.Proof{}, nil, 0, ErrResult},
	} {
		if n, e := Check(db, 1, p, x.q, x.l); n != x.n || e != x.want {
			t.Errorf("%s: %d, %d, want %d, %d", name, n, e, x.n, x.want)
		}
	}
	for most, want := range map[int]int{-1 << 62: 0, -1: 0, 0: 0, 1: 1, 2: 1, 1 << 62: 1} {
		if q, l, e := Minimize(db, 1, p, most); e != api.OK || len(l) != want || want == 0 && !sameProof(p, q) {
			t.Errorf("at most %d: %v by %v, %d", most, q, l, e)
		}
	}
}

// P24.1: the parts that need no database.
func TestNeeded(t *testing.T) {
	for s, want := range map[string]string{
		"a": "a", "a b": "b", "a b(0) c d(1)": "a b(0) d(1)", "a b(0,0) c(0)": "a c(0)", "x y z(1,0) w(2,1) v(0)": "x v(0)", "x y z(1,0) w(2)": "x y z(1,0) w(2)", "? u(0)": "? u(0)",
	} {
		q, e := Needed(proof(s))
		if e != api.OK || !sameProof(q, proof(want)) || Size(proof(s)) != len(q.Steps) {
			t.Errorf("%s: %v, %d, size %d, want %s", s, q, e, Size(proof(s)), want)
		}
	}
	many := func(n int) api.Proof { return api.Proof{Steps: slices.Repeat([]api.Step{{Label: "a"}}, n)} }
	wide := func(n int) api.Proof {
		return api.Proof{Steps: []api.Step{{Label: "a"}, {Label: "b", Args: make([]int, n)}}}
	}
	for name, x := range map[string]struct {
		p    api.Proof
		size int
		want api.Errno
	}{
		"nothing": {api.Proof{}, 0, api.ErrSize}, "2000 steps": {many(api.MaxSteps), 1, api.OK}, "2001 steps": {many(api.MaxSteps + 1), 0, api.ErrSize},
		"40 Args": {wide(api.MaxHyps), 2, api.OK}, "41 Args": {wide(api.MaxHyps + 1), 0, api.ErrSize}, "itself": {proof("a b(1)"), 0, api.ErrRange}, "below": {proof("a(-1) b"), 0, api.ErrRange},
	} {
		if q, e := Needed(x.p); e != x.want || len(q.Steps) != x.size || Size(x.p) != x.size {
			t.Errorf("%s: %d steps, %d, size %d, want %d, %d", name, len(q.Steps), e, Size(x.p), x.size, x.want)
		}
	}
}

// doubling returns a database whose theorem follows from two of each formula, and its number; its compressed proof has a step twice.
func doubling(t *testing.T, levels int) (api.Database, int) {
	t.Helper()
	s, text := "$c |- p0 ", "first $a |- p0 $. "
	p := proof("first first")
	for n := range levels {
		from, to := "p"+strconv.Itoa(n), "p"+strconv.Itoa(n+1)
		s += to + " "
		text += "${ e" + from + " $e |- " + from + " $. f" + from + " $e |- " + from + " $. to" + to + " $a |- " + to + " $. $} "
		p.Steps = append(p.Steps, api.Step{Label: "to" + to, Args: []int{n + min(n, 1), n + 1}})
	}
	db := database(t, s+"$. "+text+"th $p |- p"+strconv.Itoa(levels)+" $= ? $. after $p |- p0 $= first $.")
	i := frame.Find(db, "th")
	words, e := compress.Proof(db, i, p)
	if e != api.OK {
		t.Fatal(e)
	}
	db.Frames[i].Proof = words
	return db, i
}

// P24.1 and P24.5: theorems, and P7: both verifiers accept them.
func TestTheorem(t *testing.T) {
	s := round + "th $p |- q $= a b c d $. th2 $p |- q $= a b c d c d $. late $a |- q $. bad $p |- q $= a $."
	db := database(t, s)
	out, l, e := Theorem(db, 4, 9)
	if e != api.OK || written(l) != "3 1 4:2" || !slices.Equal(out.Frames[4].Proof, []string{"a", "b"}) {
		t.Errorf("%v, %s, %d", out.Frames[4], written(l), e)
	}
	db.Frames[4].Proof = out.Frames[4].Proof
	if !frame.Equal(db, out) {
		t.Error("something else has changed")
	}
	db = database(t, s)
	if out, l, e := Theorem(db, 5, 9); e != api.OK || written(l) != "5 th 6:1" || !slices.Equal(out.Frames[5].Proof, []string{"th"}) || len(db.Frames[5].Proof) != 6 {
		t.Errorf("%v, %s, %d", out.Frames[5], written(l), e)
	}
	for name, x := range map[string]struct {
		db      api.Database
		i, most int
		want    api.Errno
	}{
		"a wrong database": {api.Database{Constants: []string{"$"}}, 0, 9, api.ErrForm},
		"no assertion":     {db, len(db.Frames), 9, api.ErrNone},
		"below 0":          {db, -1, 9, api.ErrNone},
		"an axiom":         {db, 0, 9, api.ErrState},
		"a wrong proof":    {db, 7, 9, api.ErrState},
		"no changes":       {db, 4, 0, api.OK},
		"below no changes": {db, 4, -5, api.OK},
	} {
		out, l, e := Theorem(x.db, x.i, x.most)
		if e != x.want || l != nil || e == api.OK && !frame.Equal(out, x.db) || e != api.OK && !frame.Equal(out, api.Database{}) {
			t.Errorf("%s: %v, %v, %d, want %d", name, out, l, e, x.want)
		}
	}
	for _, i := range []int{4, 5} {
		out, _, _ := Theorem(db, i, 9)
		before, _ := verify.All(db)
		if after, e := verify.All(out); e != api.OK || !slices.Equal(before, after) {
			t.Errorf("%v, %d, want %v", after, e, before)
		}
		statements, _ := frame.Statements(out)
		text, _ := layout.Print(statements, 80)
		named, e := stream.Verify(text)
		if e != api.OK || named[i-4].Verdict != (api.Verdict{}) {
			t.Errorf("the second verifier: %v, %d", named, e)
		}
	}
}

// P24.1: a minimized proof that is too long to be written as a normal one.
func TestLongTheorem(t *testing.T) {
	for levels, want := range map[int]api.Errno{9: api.OK, 10: api.ErrLarge} { // 2 to the 10th, or to the 11th, less 1
		db, i := doubling(t, levels)
		out, l, e := Theorem(db, i, 9)
		change := "1 0 " + strconv.Itoa(levels+2) + ":" + strconv.Itoa(levels+1)
		if e != want || e == api.OK && (written(l) != change || len(out.Frames[i].Proof) != 1023) || e != api.OK && (l != nil || !frame.Equal(out, api.Database{})) {
			t.Errorf("%d levels: %s, %d, want %d", levels, written(l), e, want)
		}
		if out, l, e := Theorem(db, i, 0); e != api.OK || l != nil || !frame.Equal(out, db) {
			t.Errorf("%d levels, without a change: %v, %d", levels, l, e)
		}
	}
}

// P24.1 and P1: a proof of as many steps as may be, whose formulas are as long as may be.
func TestLargest(t *testing.T) {
	db := database(t, "$c wff |- -. T. $. $v ph $. wph $f wff ph $. wn $a wff -. ph $. ${ u $e wff ph $. use $a |- T. $. $} th $p |- T. $= ? $.")
	p := proof("wph")
	for n := range api.MaxSteps - 2 {
		p.Steps = append(p.Steps, api.Step{Label: "wn", Args: []int{n}})
	}
	last := len(p.Steps) - 1
	p.Steps = append(p.Steps, api.Step{Label: "use", Args: []int{last, last}})
	l, e := Changes(db, 2, p, last+1)
	if e != api.OK || len(l) != last || written(l[:2]) != "1999 use 0 0 2000:2; 1999 use 1 1 2000:3" || l[last-1].After != last+1 {
		t.Errorf("%d changes, %d", len(l), e)
	}
	if l, e := Changes(db, 2, p, last); e != api.OK || l != nil {
		t.Errorf("%v, %d", l, e)
	}
	q, l, e := Minimize(db, 2, p, 10)
	if e != api.OK || written(l) != "1999 use 0 0 2000:2" || !sameProof(q, proof("wph use(0,0)")) {
		t.Errorf("%v by %s, %d", q, written(l), e)
	}
	if n, e := Check(db, 2, p, q, l); n != 1 || e != api.OK {
		t.Errorf("Check: %d, %d", n, e)
	}
	p.Steps = append(p.Steps, p.Steps[last+1])
	if l, e := Changes(db, 2, p, last+1); e != api.ErrSize || l != nil {
		t.Errorf("a step more: %v, %d", l, e)
	}
}

// Loops over candidates and changes may be left early.
func TestLoops(t *testing.T) {
	db := database(t, logic+"${ e $e |- ( ph -> ps ) $. f $e |- ph $. th $p |- ps $= ? $. $}")
	i := frame.Find(db, "th")
	p := proof("wph wps e f mp(0,1,3,2) wph keep(1,1,1,4)")
	texts, e := right(db, i, p)
	if e != api.OK {
		t.Fatal(e)
	}
	x := newSeeker(db, i, p, texts)
	count := 0
	for _, r := range x.rules {
		for step := range p.Steps {
			for range x.candidates(r, step) {
				count++
				break
			}
			for range x.changes(step, len(p.Steps)) {
				count++
				break
			}
		}
	}
	for range x.falling() {
		count++
		break
	}
	if count < 10 {
		t.Errorf("%d loops", count)
	}
}
