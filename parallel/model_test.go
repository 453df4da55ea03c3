package parallel

import (
	"math/rand"
	"slices"
	"strconv"
	"strings"
	"testing"

	"apodixis/api"
	"apodixis/frame"
	"apodixis/layout"
	"apodixis/verify"
)

// logic has scopes in scopes with premises, so that the frames that a proof names are seldom all that are ahead of it.
const logic = `$c wff |- ( ) -> $. $v p q r x $. wp $f wff p $. wq $f wff q $. wr $f wff r $. wx $f wff x $.
wi $a wff ( p -> q ) $. a1 $a |- ( p -> ( q -> p ) ) $.
${ m $e |- p $. same $a |- p $. ${ j $e |- ( p -> q ) $. mp $a |- q $. a2 $p |- q $= wp wq m j mp $. ${ k $e |- r $. all $a |- ( p -> r ) $. $} both $a |- p $. $} one $p |- p $= wp m same $. $}
${ $d p q $. n $e |- q $. apart $a |- ( p -> q ) $. $} `

// parsed returns the database of a text.
func parsed(text string) api.Database {
	l, _, e := layout.Parse(strings.Fields(text))
	db, _, f := frame.Database(l)
	if e != api.OK || f != api.OK {
		panic("not the text of a database")
	}
	return db
}

// nested is a database with theorems in scopes, right and wrong ones.
func nested() api.Database {
	return parsed(logic + `${ h $e |- p $. t1 $p |- p $= wp h same $. ${ g $e |- ( p -> q ) $. t2 $p |- q $= wp wq h g mp $. t3 $p |- q $= ( a2 ) ABCDE $. t4 $p |- q $= ( a2 all ) ABCDEZFEZF $. $}
$d p q $. t5 $p |- ( q -> p ) $= ( apart ) BACD $. t6 $p |- ( p -> p ) $= ( apart ) AABC $. t7 $p |- ( p -> p ) $= wp wp h apart $. t8 $p |- p $= t1 $. t9 $p |- p $= g $. $}`)
}

// made returns a database with many theorems, whose proofs are of all kinds.
func made(r *rand.Rand) api.Database {
	text := logic
	words := strings.Fields("wp wq wr wx wi a1 m same mp a2 all both one apart n t0 t1 t2 t3 t4 t5 ? no ( ) A B C D ABCDE BCD AZE AABC")
	right := []string{"wp h same", "( same ) ABC", "wp wq wi", "( wi ) ABD", "h", "( one ) ABC", "wp wq wi wp wi", "? h"}
	for i := range 1 + r.Intn(12) {
		n := strconv.Itoa(i)
		text += "${ " + []string{"", "$d p q $. ", "$d x p q r $. "}[r.Intn(3)]
		if r.Intn(2) == 0 {
			text += "h $e |- p $. "
		} else {
			text += "$v y" + n + " $. "
		}
		text = strings.ReplaceAll(text, "h $e", "h"+n+" $e")
		proof := strings.ReplaceAll(right[r.Intn(len(right))], "h", "h"+n)
		if r.Intn(3) == 0 {
			proof = ""
			for range r.Intn(9) {
				proof += " " + words[r.Intn(len(words))]
			}
		}
		text += "t" + n + " $p " + []string{"|- p", "wff ( p -> q )", "|- q"}[r.Intn(3)] + " $= " + proof + " $. $} "
	}
	return parsed(text)
}

// modelCost is the cost of a theorem, by the document.
func modelCost(proof []string) int {
	if len(proof) == 0 || proof[0] != "(" {
		return len(proof)
	}
	_, letters, _ := strings.Cut(strings.Join(proof, " "), " ) ")
	n := 0
	for _, c := range letters {
		n += strings.Count("ABCDEFGHIJKLMNOPQRST?", string(c))
	}
	return n
}

// model does a run theorem by theorem.
func model(db api.Database, frames []int, o Options) Report {
	var r Report
	for _, i := range frames {
		c := modelCost(db.Frames[i].Proof)
		if o.Budget != -1 && r.Used+c > o.Budget {
			break
		}
		v, e := verify.Theorem(db, i)
		if e != api.OK {
			panic("not a theorem")
		}
		r.Results = append(r.Results, Result{i, v, c})
		r.Used += c
		r.Next++
		if v.Code != api.OK {
			r.Failed++
			if r.Failed == o.Failures {
				break
			}
		}
	}
	return r
}

// P11.1, P11.2, P11.3, P11.5: runs with any options are those of the model, with any number of workers.
func TestModel(t *testing.T) {
	random := rand.New(rand.NewSource(1))
	codes := map[api.Errno]int{}
	for n := range 300 {
		db := made(random)
		if n == 0 {
			db = nested()
		}
		all := theorems(db)
		full := model(db, all, Options{1, -1, 0})
		for _, x := range full.Results {
			codes[x.Verdict.Code]++
			if c, e := Cost(db, x.Frame); e != api.OK || c != x.Steps {
				t.Fatalf("Cost of %v: %d, %d, want %d", db.Frames[x.Frame].Proof, c, e, x.Steps)
			}
		}
		for range 6 {
			o := Options{1 + random.Intn(MaxWorkers), random.Intn(full.Used+3) - 1, random.Intn(4)}
			if random.Intn(3) == 0 {
				o.Budget = -1
			}
			want := model(db, all, o)
			for _, workers := range []int{1, 2, 3, o.Workers} {
				o.Workers = workers
				r, e := Run(db, o)
				if e != api.OK || !sameReport(r, want) {
					t.Fatalf("Run with %v: %v, %d, want %v", o, r, e, want)
				}
				j, _ := Start(db, o)
				for _, x := range want.Results {
					if y, ok := j.Next(); !ok || x != y {
						t.Fatalf("Next with %v: %v, %t, want %v", o, y, ok, x)
					}
				}
				if y, ok := j.Next(); ok {
					t.Fatalf("Next with %v: %v at the end", o, y)
				}
			}
			if !slices.Equal(want.Results, full.Results[:want.Next]) {
				t.Fatalf("the results with %v are not the first ones of all", o)
			}
			some := make([]int, random.Intn(20))
			for i := range some {
				some[i] = all[random.Intn(len(all))]
			}
			if r, e := Some(db, some, o); e != api.OK || !sameReport(r, model(db, some, o)) {
				t.Fatalf("Some of %v with %v: %v, %d", some, o, r, e)
			}
		}
		share(t, db, 1+random.Intn(MaxWorkers))
	}
	for _, code := range []api.Errno{api.OK, api.ErrList, api.ErrCode, api.ErrLabel, api.ErrStack, api.ErrMatch, api.ErrApart, api.ErrUnknown, api.ErrProves} {
		if codes[code] == 0 {
			t.Errorf("no theorem has the code %d", code)
		}
	}
	t.Log(codes)
}

// share checks what Deal returns: each theorem once, and no worker has too much (P11.4).
func share(t *testing.T, db api.Database, workers int) {
	t.Helper()
	l, e := Deal(db, workers)
	if e != api.OK || len(l) != workers {
		t.Fatalf("Deal among %d: %v, %d", workers, l, e)
	}
	sum, most, greatest := 0, 0, 0
	for _, s := range l {
		costs := 0
		for _, i := range s {
			c := modelCost(db.Frames[i].Proof)
			costs += c
			greatest = max(greatest, c)
		}
		sum += costs
		most = max(most, costs)
	}
	if most*workers > sum+greatest*workers {
		t.Errorf("a worker has %d of %d, with %d workers and at most %d a theorem", most, sum, workers, greatest)
	}
	given := slices.Concat(l...)
	slices.Sort(given)
	if !slices.Equal(given, theorems(db)) {
		t.Errorf("Deal gives %v", given)
	}
}

// P11.1: no argument is changed, nor what lies behind a list's end.
func TestArguments(t *testing.T) {
	db, same := nested(), nested()
	roomy := func(l []string) []string { return append(make([]string, 0, len(l)+2), l...) }
	for i := range db.Frames {
		db.Frames[i].Proof = roomy(db.Frames[i].Proof)
		db.Frames[i].Text = roomy(db.Frames[i].Text)
	}
	frames := append(make([]int, 0, 40), theorems(db)...)
	Run(db, Options{3, -1, 0})
	Some(db, frames, Options{3, -1, 0})
	Some(db, frames[:3], Options{3, 4, 0})
	Deal(db, 3)
	j, _ := Start(db, Options{3, -1, 0})
	j.Next()
	if !frame.Equal(db, same) || !slices.Equal(frames, theorems(same)) || frames[:40][39] != 0 {
		t.Error("an argument has changed")
	}
	for _, f := range db.Frames {
		if n := len(f.Proof); f.Proof[:n+2][n] != "" || f.Text[:len(f.Text)+1][len(f.Text)] != "" {
			t.Error("what lies behind a list has changed")
		}
	}
}
