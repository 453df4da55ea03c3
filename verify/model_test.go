package verify

import (
	"math/rand"
	"regexp"
	"slices"
	"strings"
	"testing"

	"apodixis/api"
	"apodixis/subst"
	"apodixis/token"
)

// The model follows the document's text: first the format, then the list of steps as words, then the steps one by one.

var right = regexp.MustCompile(`^(?:[U-Y]*[A-T]Z?|\?)*$`)
var numbers = regexp.MustCompile(`([U-Y]*)([A-T])(Z?)|\?`)

// value is the number that letters mean.
func value(high, low string) int {
	n := 0
	for _, c := range high {
		if n <= maxNumber {
			n = 5*n + strings.IndexRune("UVWXY", c) + 1
		}
	}
	return 20*n + strings.Index("ABCDEFGHIJKLMNOPQRST", low) + 1
}

// modelSteps returns the steps of a proof as words: labels, ? or #k for the tag k; Z behind a word means that it gets a tag.
func modelSteps(f api.Frame, proof []string) ([]string, api.Errno) {
	if len(proof) == 0 || proof[0] != "(" {
		if len(proof) > api.MaxSteps {
			return nil, api.ErrSteps
		}
		return proof, api.OK
	}
	end := slices.Index(proof, ")")
	if end < 0 {
		return nil, api.ErrList
	}
	var labels []string
	for _, h := range f.Hyps {
		labels = append(labels, h.Label)
	}
	for _, w := range proof[1:end] {
		if !token.IsLabel(w) || slices.Contains(labels, w) {
			return nil, api.ErrList
		}
		labels = append(labels, w)
	}
	text := strings.Join(proof[end+1:], "")
	if !right.MatchString(text) {
		return nil, api.ErrCode
	}
	var steps []string
	tags := 0
	for _, m := range numbers.FindAllStringSubmatch(text, -1) {
		n := value(m[1], m[2])
		switch {
		case m[0] == "?":
			steps = append(steps, "?")
			continue
		case n > maxNumber || n > len(labels)+tags:
			return nil, api.ErrCode
		case n > len(labels):
			steps = append(steps, "#"+strings.Repeat("i", n-len(labels))+m[3])
		default:
			steps = append(steps, labels[n-1]+" "+m[3])
		}
		tags += len(m[3])
	}
	if len(steps) > api.MaxSteps {
		return nil, api.ErrSteps
	}
	return steps, api.OK
}

// model returns the verdict of a proof, and the number of entries behind all steps ahead of it.
func model(db api.Database, i int, proof []string) api.Verdict {
	f := db.Frames[i]
	steps, e := modelSteps(f, proof)
	if e != api.OK {
		return api.Verdict{Code: e}
	}
	var stack, tags []string
	for at, s := range steps {
		s, tagged := strings.CutSuffix(s, "Z")
		s = strings.TrimSpace(s)
		var text string
		if strings.HasPrefix(s, "#") {
			text = tags[len(s)-2]
		} else {
			taken, result, e := modelStep(db, i, s, stack)
			if e != api.OK {
				return api.Verdict{Code: e, Step: at}
			}
			text, stack = result, stack[:len(stack)-taken]
		}
		stack = append(slices.Clone(stack), text)
		if tagged {
			tags = append(tags, text)
		}
	}
	switch {
	case len(stack) != 1:
		return api.Verdict{Code: api.ErrStack, Step: len(steps)}
	case stack[0] != strings.Join(f.Text, " "):
		return api.Verdict{Code: api.ErrProves, Step: len(steps)}
	}
	return api.Verdict{}
}

func modelStep(db api.Database, i int, label string, stack []string) (int, string, api.Errno) {
	if label == "?" {
		return 0, "", api.ErrUnknown
	}
	for _, h := range slices.Concat(db.Frames[i].Hyps, db.Frames[i].Dummies) {
		if h.Label == label {
			return 0, strings.Join(h.Text, " "), api.OK
		}
	}
	j := slices.IndexFunc(db.Frames[:i], func(f api.Frame) bool { return f.Label == label })
	if j < 0 {
		return 0, "", api.ErrLabel
	}
	a := db.Frames[j]
	if len(stack) < len(a.Hyps) {
		return 0, "", api.ErrStack
	}
	entries := stack[len(stack)-len(a.Hyps):]
	var l []api.Bind
	for k, h := range a.Hyps {
		code, rest, _ := strings.Cut(entries[k], " ")
		if h.Floating && code != h.Text[0] {
			return 0, "", api.ErrKind
		} else if h.Floating {
			l = append(l, api.Bind{Var: h.Text[1], Text: strings.Fields(rest)})
		}
	}
	for k, h := range a.Hyps {
		if !h.Floating && strings.Join(subst.Apply(h.Text, l), " ") != entries[k] {
			return 0, "", api.ErrMatch
		}
	}
	text := subst.Apply(a.Text, l)
	if len(text) > api.MaxFormula {
		return 0, "", api.ErrLarge
	}
	if _, broken := subst.Broken(l, a.Apart, db.Variables, db.Frames[i].Wide); broken {
		return 0, "", api.ErrApart
	}
	return len(a.Hyps), strings.Join(text, " "), api.OK
}

// one returns one of several words.
func one(r *rand.Rand, l ...string) string { return l[r.Intn(len(l))] }

// randomWff returns a proof of wff, and what it proves to be one.
func randomWff(r *rand.Rand, depth int) (proof, text string) {
	if depth == 0 || r.Intn(3) == 0 {
		v := one(r, "p", "q", "r", "x", "y")
		if v == "x" || v == "y" {
			return "v" + v + " ex", v
		}
		return "w" + v, v
	}
	a, s := randomWff(r, depth-1)
	b, u := randomWff(r, depth-1)
	return a + " " + b + " wi", "( " + s + " -> " + u + " )"
}

// randomProved returns a proof, the formula without its typecode, and a proof that this is a wff.
func randomProved(r *rand.Rand, depth int) (proof, text, wff string) {
	a, s := randomWff(r, 2)
	switch {
	case depth > 0 && r.Intn(2) == 0:
		p, u, w := randomProved(r, depth-1)
		return strings.Join([]string{w, a, w, "wi", p, w, a, "a1 mp"}, " "), "( " + s + " -> " + u + " )", a + " " + w + " wi"
	case r.Intn(2) == 0:
		return "h", "( q -> p )", "wq wp wi"
	}
	b, u := randomWff(r, 1)
	return a + " " + b + " a1", "( " + s + " -> ( " + u + " -> " + s + " ) )", a + " " + b + " " + a + " wi wi"
}

// randomProof returns a proof without wrong steps, but that disjointness may be missing, and what it proves.
func randomProof(r *rand.Rand) (proof, text string) {
	a, s := randomWff(r, 2)
	x, y := one(r, "x", "y"), one(r, "x", "y", "y")
	switch r.Intn(5) {
	case 0:
		return a, "wff " + s
	case 1:
		return a + " v" + x + " v" + y + " ax", "|- ( " + x + " = " + y + " -> " + s + " )"
	case 2:
		return a + " v" + x + " " + a + " eq big", "|- " + s + " " + s + " " + x
	}
	proof, text, _ = randomProved(r, 2)
	return proof, "|- " + text
}

// randomDatabase has logic, and three theorems behind it, whose disjointness differs, and whose proofs are right or about so.
func randomDatabase(t *testing.T, r *rand.Rand) api.Database {
	s := logic
	for _, label := range []string{"t0", "t1", "t2"} {
		s += "${ "
		for range r.Intn(5) {
			v := []string{"p", "q", "x", "y"}
			a := r.Intn(4)
			s += "$d " + v[a] + " " + v[(a+1+r.Intn(3))%4] + " $. "
		}
		proof, text := randomProof(r)
		proof = strings.ReplaceAll(proof, "h", label+"h")
		s += label + "h $e |- ( q -> p ) $. " + label + " $p " + text + " $= " + strings.Join(changed(r, strings.Fields(proof)), " ") + " $. $} "
	}
	return database(t, s)
}

// changed returns the words of a proof, of which one may have become another one.
func changed(r *rand.Rand, proof []string) []string {
	at, other := r.Intn(len(proof)), one(r, "wp", "vx", "wi", "ax", "a1", "mp", "?", "none", "t0", "t1", "t0h", "t1h", "big", "eq")
	switch r.Intn(8) {
	case 0:
		proof = slices.Insert(proof, at, other)
	case 1:
		proof = slices.Delete(proof, at, at+1)
	case 2:
		proof[at] = other
	case 3:
		proof[at] = proof[r.Intn(len(proof))]
	}
	return proof
}

// randomCode returns a compressed proof with the steps of a normal one, some of them changed.
func randomCode(r *rand.Rand, f api.Frame, proof []string) []string {
	var own, listed []string
	for _, h := range f.Hyps {
		own = append(own, h.Label)
	}
	for _, w := range proof {
		if w != "?" && !slices.Contains(own, w) && !slices.Contains(listed, w) {
			listed = append(listed, w)
		}
	}
	letters := ""
	for _, w := range proof {
		switch at := slices.Index(append(slices.Clone(own), listed...), w); {
		case w == "?":
			letters += "?"
		case r.Intn(50) == 0:
			letters += []string{"Z", "U", "UA", "T", "?", "A", "b"}[r.Intn(7)]
		default:
			letters += []string{"", "U", "V"}[at/20] + string(rune('A'+at%20))
		}
		if r.Intn(3) == 0 {
			letters += "Z"
		}
		if r.Intn(10) == 0 {
			letters += string(rune('A' + (len(own)+len(listed)+r.Intn(4))%20))
		}
	}
	words := append([]string{"("}, listed...)
	return append(words, ")", letters[:len(letters)/2], letters[len(letters)/2:])
}

// P7.1, P7.2: random proofs, normal and compressed, have the verdict of the model, also step by step.
func TestModel(t *testing.T) {
	r := rand.New(rand.NewSource(7))
	codes := map[api.Errno]int{}
	for range 700 {
		db := randomDatabase(t, r)
		for i := number; i < len(db.Frames); i++ {
			proof := db.Frames[i].Proof
			if r.Intn(2) == 0 {
				proof = randomCode(r, db.Frames[i], proof)
			}
			want := model(db, i, proof)
			if v, e := Proof(db, i, proof); e != api.OK || v != want {
				t.Fatalf("%q: %v, %d, want %v", proof, v, e, want)
			}
			codes[want.Code]++
			run(t, db, i, proof, want)
		}
	}
	for _, e := range []api.Errno{api.OK, api.ErrCode, api.ErrLabel, api.ErrStack, api.ErrKind, api.ErrMatch, api.ErrApart, api.ErrUnknown, api.ErrProves} {
		if codes[e] < 10 {
			t.Errorf("the verdict %d came %d times: %v", e, codes[e], codes)
		}
	}
}

// run lets a machine run as long as Step returns true.
func run(t *testing.T, db api.Database, i int, proof []string, want api.Verdict) {
	m, _ := New(db, i, proof)
	for m.Step() {
		for _, text := range m.Stack() {
			if len(text) == 0 || len(text) > api.MaxFormula || !slices.Contains(db.Constants, text[0]) {
				t.Fatalf("%q has the entry %q", proof, text)
			}
		}
	}
	if m.Verdict() != want {
		t.Fatalf("a machine with %q: %v, want %v", proof, m.Verdict(), want)
	}
}

// P7.3: nothing that stands behind a theorem changes its verdict.
func TestAhead(t *testing.T) {
	r := rand.New(rand.NewSource(73))
	for range 60 {
		db := randomDatabase(t, r)
		all, e := All(db)
		if e != api.OK {
			t.Fatal(e)
		}
		for n := range db.Frames {
			part := db
			part.Frames = db.Frames[:n]
			if l, e := All(part); e != api.OK || !slices.Equal(l, all[:n]) {
				t.Fatalf("%v of %d frames, %v of all", l, n, all)
			}
		}
	}
}

// changePairs gives a frame other pairs, and the mandatory ones of these.
func changePairs(f api.Frame, wide []api.Pair) api.Frame {
	f.Wide, f.Apart = subst.Sorted(wide), nil
	isMandatory := func(v string) bool {
		return slices.ContainsFunc(f.Hyps, func(h api.Hyp) bool { return h.Floating && h.Text[1] == v })
	}
	for _, p := range f.Wide {
		if isMandatory(p.A) && isMandatory(p.B) {
			f.Apart = append(f.Apart, p)
		}
	}
	return f
}

// P7.4: a proof that is OK stays so, if what it uses requires less, or the theorem permits more.
func TestFewerPairs(t *testing.T) {
	r := rand.New(rand.NewSource(74))
	const proofs = "vx ex wp wi vx vy ax; wp vx vy ax; wp vx ex wi vy vx ax; ( wi ax ex vx vy ) CEDCF; wp vx vy ax wp vx vy ax wi"
	kept := 0
	for range 300 {
		db := database(t, logic+"${ $d x p $. $d x y $. $d q r $. t $p |- ( x = y -> p ) $= ? $. $}")
		proof := strings.Fields(strings.Split(proofs, ";")[r.Intn(5)])
		before, e := Proof(db, number, proof)
		for i, f := range db.Frames[:number] {
			db.Frames[i] = changePairs(f, slices.DeleteFunc(slices.Clone(f.Wide), func(api.Pair) bool { return r.Intn(2) == 0 }))
		}
		more := []api.Pair{{A: "p", B: "y"}, {A: "q", B: "y"}, {A: "p", B: "q"}}
		db.Frames[number] = changePairs(db.Frames[number], append(slices.Clone(db.Frames[number].Wide), more[:r.Intn(4)]...))
		after, f := Proof(db, number, proof)
		if e != api.OK || f != api.OK || before == (api.Verdict{}) && after != before {
			t.Fatalf("%q: %v, %d, behind the change %v, %d", proof, before, e, after, f)
		}
		if before == (api.Verdict{}) {
			kept++
		}
	}
	if kept < 30 {
		t.Errorf("only %d proofs were OK", kept)
	}
}

// P7.5: a proof that is cut behind a step with an error, and one with a hypothesis more.
func TestParts(t *testing.T) {
	r := rand.New(rand.NewSource(75))
	cut, longer := 0, 0
	for range 300 {
		db := randomDatabase(t, r)
		for i := number; i < len(db.Frames); i++ {
			proof := db.Frames[i].Proof
			v, _ := Proof(db, i, proof)
			if v.Step < len(proof) && v.Code != api.OK {
				n := v.Step + 1 + r.Intn(len(proof)-v.Step)
				if got, _ := Proof(db, i, proof[:n]); got != v {
					t.Fatalf("%q cut at %d: %v, want %v", proof, n, got, v)
				}
				cut++
			}
			if v == (api.Verdict{}) {
				more := append(slices.Clone(proof), db.Frames[i].Hyps[r.Intn(len(db.Frames[i].Hyps))].Label)
				if got, _ := Proof(db, i, more); got != verdict(api.ErrStack, len(more)) {
					t.Fatalf("%q: %v", more, got)
				}
				longer++
			}
		}
	}
	if cut < 30 || longer < 10 {
		t.Errorf("only %d were cut, %d got longer", cut, longer)
	}
}
