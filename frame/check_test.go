package frame

import (
	"slices"
	"strconv"
	"strings"
	"testing"

	"apodixis/api"
)

// symbols returns n different symbols.
func symbols(prefix string, n int) []string {
	var l []string
	for i := range n {
		l = append(l, prefix+strconv.Itoa(i))
	}
	return l
}

// wide returns the pairs of two letters each.
func wide(pairs ...string) []api.Pair {
	var l []api.Pair
	for _, p := range pairs {
		l = append(l, api.Pair{A: p[:1], B: p[1:]})
	}
	return l
}

// P5.1: each error of Check, by one change of a right database, in their order.
func TestCheck(t *testing.T) {
	db := database(t, base+"a $a |- p $. ${ $d p q $. $d q r $. m $e |- p $. ${ n $e |- q $. t $p |- r $= ( a ) ? $. $} u $a |- q $. $}")
	if e := Check(db); e != api.OK {
		t.Fatalf("the right database: %d", e)
	}
	if Check(api.Database{}) != api.OK {
		t.Errorf("the empty database")
	}
	long := strings.Repeat("x", api.MaxLabel+1)
	frames := func(change func(f []api.Frame)) func(db *api.Database) {
		return func(db *api.Database) { change(db.Frames) }
	}
	for name, x := range map[string]struct {
		change func(db *api.Database)
		e      api.Errno
	}{
		"too many frames":            {func(db *api.Database) { db.Frames, db.Constants[0] = make([]api.Frame, api.MaxFrames+1), "" }, api.ErrFull},
		"too many constants":         {func(db *api.Database) { db.Constants = make([]string, api.MaxTokens+1) }, api.ErrFull},
		"too many variables":         {func(db *api.Database) { db.Variables, db.Constants[0] = make([]string, api.MaxTokens+1), "" }, api.ErrFull},
		"the most constants":         {func(db *api.Database) { db.Constants = append(db.Constants, symbols("c", api.MaxTokens-2)...) }, api.OK},
		"the most variables":         {func(db *api.Database) { db.Variables = append(db.Variables, symbols("v", api.MaxTokens-3)...) }, api.OK},
		"a constant of no form":      {func(db *api.Database) { db.Constants[1] = "$" }, api.ErrForm},
		"a constant too long":        {func(db *api.Database) { db.Constants[1] = long }, api.ErrForm},
		"a constant twice":           {func(db *api.Database) { db.Constants[1], db.Variables[0] = "wff", "" }, api.ErrTwice},
		"a variable of no form":      {func(db *api.Database) { db.Variables[1] = "" }, api.ErrForm},
		"a variable and a constant":  {func(db *api.Database) { db.Variables[1] = "|-" }, api.ErrTwice},
		"a variable twice":           {func(db *api.Database) { db.Variables[1] = "p" }, api.ErrTwice},
		"a constant more":            {func(db *api.Database) { db.Constants = append(db.Constants, "x") }, api.OK},
		"a variable more":            {func(db *api.Database) { db.Variables = append(db.Variables, "x") }, api.OK},
		"a frame's label of no form": {frames(func(f []api.Frame) { f[1].Label, f[1].Text = "(", []string{"x"} }), api.ErrForm},
		"no label":                   {frames(func(f []api.Frame) { f[1].Label = "" }), api.ErrForm},
		"a symbol as a label":        {frames(func(f []api.Frame) { f[1].Label = "q" }), api.ErrTwice},
		"a constant as a label":      {frames(func(f []api.Frame) { f[1].Label = "wff" }), api.ErrTwice},
		"a label twice":              {frames(func(f []api.Frame) { f[1].Label = "a" }), api.ErrTwice},
		"a hypothesis' label":        {frames(func(f []api.Frame) { f[2].Label = "n" }), api.ErrTwice},
		"a dummy's label":            {frames(func(f []api.Frame) { f[1].Label = "wq" }), api.ErrTwice},
		"its own hypothesis' label":  {frames(func(f []api.Frame) { f[1].Label = "m" }), api.ErrTwice},
		"too many hypotheses":        {frames(func(f []api.Frame) { f[1].Hyps = make([]api.Hyp, api.MaxHyps+1) }), api.ErrSize},
		"too many dummies":           {frames(func(f []api.Frame) { f[1].Dummies, f[1].Hyps[0].Label = make([]api.Hyp, api.MaxHyps+1), "" }), api.ErrSize},
		"a hypothesis of no form":    {frames(func(f []api.Frame) { f[1].Hyps[3].Label = "->" }), api.ErrForm},
		"a premise among Dummies":    {frames(func(f []api.Frame) { f[0].Dummies[0] = api.Hyp{Label: "x", Text: []string{"|-"}} }), api.ErrForm},
		"a floating one of one":      {frames(func(f []api.Frame) { f[0].Hyps[0].Text = []string{"wff"} }), api.ErrForm},
		"a floating one of three":    {frames(func(f []api.Frame) { f[0].Hyps[0].Text = []string{"wff", "p", "p"} }), api.ErrForm},
		"a premise of none":          {frames(func(f []api.Frame) { f[1].Hyps[3].Text = nil }), api.ErrForm},
		"the longest premise":        {frames(func(f []api.Frame) { f[1].Hyps[4].Text = slices.Repeat([]string{"|-"}, api.MaxSymbols) }), ErrFrame},
		"too long a premise":         {frames(func(f []api.Frame) { f[1].Hyps[4].Text = slices.Repeat([]string{"|-"}, api.MaxSymbols+1) }), api.ErrForm},
		"no form, and a symbol":      {frames(func(f []api.Frame) { f[1].Hyps[3] = api.Hyp{Label: "p"} }), api.ErrForm},
		"a hypothesis as a symbol":   {frames(func(f []api.Frame) { f[1].Hyps[3].Label = "p" }), api.ErrTwice},
		"a hypothesis as its frame":  {frames(func(f []api.Frame) { f[1].Hyps[3].Label = "t" }), api.ErrTwice},
		"as a frame before":          {frames(func(f []api.Frame) { f[1].Hyps[3].Label = "a" }), api.ErrTwice},
		"as one of this frame":       {frames(func(f []api.Frame) { f[1].Hyps[4].Label = "m" }), api.ErrTwice},
		"a dummy as a hypothesis":    {frames(func(f []api.Frame) { f[0].Dummies[1].Label = "wp" }), api.ErrTwice},
		"twice, and of no scope":     {frames(func(f []api.Frame) { f[1].Hyps[4] = api.Hyp{Label: "m", Text: []string{"x"}} }), api.ErrTwice},
		"a frame's, and of no scope": {frames(func(f []api.Frame) { f[1].Hyps[4] = api.Hyp{Label: "a", Text: []string{"x"}} }), api.ErrTwice},
		"its own, and of no scope":   {frames(func(f []api.Frame) { f[1].Hyps[4] = api.Hyp{Label: "t", Text: []string{"x"}} }), api.ErrTwice},
		"a symbol, and of no scope":  {frames(func(f []api.Frame) { f[1].Hyps[4] = api.Hyp{Label: "p", Text: []string{"x"}} }), api.ErrTwice},
		"a premise with a variable":  {frames(func(f []api.Frame) { f[1].Hyps[3].Text[0] = "p" }), api.ErrScope},
		"a premise with no symbol":   {frames(func(f []api.Frame) { f[1].Hyps[3].Text[1] = "x" }), api.ErrScope},
		"a premise with a constant":  {frames(func(f []api.Frame) { f[1].Hyps[3].Text[1] = "wff" }), ErrFrame},
		"a floating one of no type":  {frames(func(f []api.Frame) { f[1].Hyps[0].Text[0] = "x" }), api.ErrScope},
		"of a variable's type":       {frames(func(f []api.Frame) { f[1].Hyps[0].Text[0] = "q" }), api.ErrScope},
		"of a constant":              {frames(func(f []api.Frame) { f[1].Hyps[0].Text[1] = "|-" }), api.ErrScope},
		"of no symbol":               {frames(func(f []api.Frame) { f[0].Hyps[0].Text[1] = "x" }), api.ErrScope},
		"another typecode":           {frames(func(f []api.Frame) { f[1].Hyps[0].Text[0] = "|-" }), api.ErrType},
		"another one in this frame":  {frames(func(f []api.Frame) { f[0].Dummies[0] = float("x", "|-", "p") }), api.ErrType},
		"a variable typed twice":     {frames(func(f []api.Frame) { f[0].Dummies[0] = float("x", "wff", "p") }), api.ErrTwice},
		"another variable":           {frames(func(f []api.Frame) { f[1].Hyps[0].Text[1] = "r" }), api.ErrTwice},
		"another premise":            {frames(func(f []api.Frame) { f[2].Hyps[2].Text[1] = "q" }), api.ErrTwice},
		"another label":              {frames(func(f []api.Frame) { f[1].Hyps[0].Label = "x" }), api.OK},
		"a formula of none":          {frames(func(f []api.Frame) { f[0].Text = nil }), api.ErrForm},
		"too long a formula":         {frames(func(f []api.Frame) { f[0].Text = append(slices.Repeat([]string{"|-"}, api.MaxSymbols), "p") }), api.ErrForm},
		"the longest formula":        {frames(func(f []api.Frame) { f[0].Text = append(slices.Repeat([]string{"|-"}, api.MaxSymbols-1), "p") }), api.OK},
		"too long, and no symbol":    {frames(func(f []api.Frame) { f[0].Text = slices.Repeat([]string{"x"}, api.MaxSymbols+1) }), api.ErrForm},
		"no formula, and no Hyps":    {frames(func(f []api.Frame) { f[0].Text, f[0].Hyps = nil, nil }), api.ErrForm},
		"a formula of no type":       {frames(func(f []api.Frame) { f[0].Text[0] = "p" }), api.ErrScope},
		"a formula with no symbol":   {frames(func(f []api.Frame) { f[0].Text[1] = "x" }), api.ErrScope},
		"a formula of no constant":   {frames(func(f []api.Frame) { f[0].Text[0] = "x" }), api.ErrScope},
		"one that is not mandatory":  {frames(func(f []api.Frame) { f[0].Text[1] = "q" }), ErrFrame},
		"only too many":              {frames(func(f []api.Frame) { f[0].Text = f[0].Text[:1] }), ErrFrame},
		"only too few":               {frames(func(f []api.Frame) { f[0].Text = append(f[0].Text, "r") }), ErrFrame},
		"a mandatory one among":      {frames(func(f []api.Frame) { f[0].Hyps, f[0].Dummies = nil, append(f[0].Dummies, f[0].Hyps...) }), ErrFrame},
		"all of Wide mandatory":      {frames(func(f []api.Frame) { f[1].Wide = wide("pq", "pr", "qr"); f[1].Apart = f[1].Wide }), api.OK},
		"Wide by B":                  {frames(func(f []api.Frame) { f[1].Wide = wide("pr", "pq"); f[1].Apart = f[1].Wide }), ErrFrame},
		"Wide by A":                  {frames(func(f []api.Frame) { f[2].Wide = wide("qr", "pq") }), ErrFrame},
		"Wide by B, not by A": {func(db *api.Database) {
			db.Variables, db.Frames[2].Wide = append(db.Variables, "s"), wide("pq", "qr", "ps")
		}, ErrFrame},
		"Wide with one twice":     {frames(func(f []api.Frame) { f[2].Wide = wide("pq", "qr", "qr") }), ErrFrame},
		"Wide with a pair of one": {frames(func(f []api.Frame) { f[2].Wide = wide("pq", "rr") }), ErrFrame},
		"Wide with a pair back":   {frames(func(f []api.Frame) { f[2].Wide = wide("pq", "rq") }), ErrFrame},
		"Wide with a constant B":  {frames(func(f []api.Frame) { f[2].Wide = append(wide("pq"), api.Pair{A: "q", B: "wff"}) }), ErrFrame},
		"Wide with a constant A": {func(db *api.Database) {
			db.Constants, db.Frames[2].Wide = append(db.Constants, "A"), append(wide("Ap"), db.Frames[2].Wide...)
		}, ErrFrame},
		"Wide with no symbol":       {frames(func(f []api.Frame) { f[2].Wide = append(wide("pq"), wide("xy")...) }), ErrFrame},
		"Wide twice":                {frames(func(f []api.Frame) { f[1].Wide = []api.Pair{{A: "p", B: "q"}, {A: "p", B: "q"}} }), ErrFrame},
		"Wide descending":           {frames(func(f []api.Frame) { slices.Reverse(f[1].Wide) }), ErrFrame},
		"a pair descending":         {frames(func(f []api.Frame) { f[1].Wide[1] = api.Pair{A: "r", B: "q"} }), ErrFrame},
		"a pair of one":             {frames(func(f []api.Frame) { f[1].Wide[1] = api.Pair{A: "q", B: "q"} }), ErrFrame},
		"a pair with a constant":    {frames(func(f []api.Frame) { f[1].Wide[1] = api.Pair{A: "q", B: "wff"} }), ErrFrame},
		"a pair with a constant A":  {frames(func(f []api.Frame) { f[1].Wide[1] = api.Pair{A: "|-", B: "q"} }), ErrFrame},
		"a pair without a symbol":   {frames(func(f []api.Frame) { f[1].Wide[1] = api.Pair{A: "q", B: "x"} }), ErrFrame},
		"Apart without Wide":        {frames(func(f []api.Frame) { f[1].Wide = nil }), ErrFrame},
		"Wide without Apart":        {frames(func(f []api.Frame) { f[1].Apart = f[1].Apart[1:] }), ErrFrame},
		"Apart of a dummy":          {frames(func(f []api.Frame) { f[2].Apart = f[2].Wide }), ErrFrame},
		"a frame of nothing":        {frames(func(f []api.Frame) { f[2].Apart, f[2].Text = f[2].Wide, []string{"x"} }), api.ErrScope},
		"a proof of an axiom":       {frames(func(f []api.Frame) { f[0].Proof = []string{"?"} }), api.ErrForm},
		"a proof of no axiom":       {frames(func(f []api.Frame) { f[0].Proof = []string{} }), api.OK},
		"a wrong proof word":        {frames(func(f []api.Frame) { f[1].Proof[3] = "$." }), api.ErrForm},
		"an empty proof word":       {frames(func(f []api.Frame) { f[1].Proof[3] = "" }), api.ErrForm},
		"no proof":                  {frames(func(f []api.Frame) { f[1].Proof = nil }), api.OK},
		"the longest proof":         {frames(func(f []api.Frame) { f[1].Proof = slices.Repeat([]string{"?"}, api.MaxTokens) }), api.OK},
		"too long a proof":          {frames(func(f []api.Frame) { f[1].Proof = slices.Repeat([]string{"?"}, api.MaxTokens+1) }), api.ErrForm},
		"too long, and wrong Apart": {frames(func(f []api.Frame) { f[1].Proof, f[1].Apart = slices.Repeat([]string{"?"}, api.MaxTokens+1), nil }), ErrFrame},
	} {
		other := copyOf(db)
		x.change(&other)
		if e := Check(other); e != x.e {
			t.Errorf("%s: %d, want %d", name, e, x.e)
		}
	}
}

// P5.1: the first frame with an error counts, and the constants ahead of it.
func TestCheckOrder(t *testing.T) {
	db := database(t, base+"a $a |- p $. b $a |- q $. c $p |- r $= ? $.")
	db.Frames[2].Label = "$"
	db.Frames[1].Text = []string{"|-", "x"}
	if e := Check(db); e != api.ErrScope {
		t.Errorf("the second frame: %d", e)
	}
	db.Frames[0].Wide = []api.Pair{{}}
	if e := Check(db); e != ErrFrame {
		t.Errorf("the first frame: %d", e)
	}
	db.Variables = append(db.Variables, "p", "$")
	if e := Check(db); e != api.ErrTwice {
		t.Errorf("the variables: %d", e)
	}
	db.Constants = append(db.Constants, "$", "$")
	if e := Check(db); e != api.ErrForm {
		t.Errorf("the constants: %d", e)
	}
}

// P5.1: essential hypotheses stand in nested scopes.
func TestCheckNested(t *testing.T) {
	premise := func(l string) api.Hyp { return api.Hyp{Label: l, Text: []string{"x"}} }
	for _, x := range []struct {
		frames string // the premises of each frame
		e      api.Errno
	}{
		{"a,ab,abc", api.OK}, {"abc,ab,a", api.OK}, {"ab,ac,ad", api.OK}, {"abc,ade,af", api.OK}, {"a,,b", api.OK}, {",a,a,a", api.OK},
		{"a,,a", api.ErrOrder}, {"ab,a,ab", api.ErrOrder}, {"ab,b", api.ErrOrder}, {"ab,ba", api.ErrOrder}, {"abc,ac", api.ErrOrder}, {"ab,ca", api.ErrOrder}, {"a,b,ca", api.ErrOrder}, {"a,,ba", api.ErrOrder}, {"ab,ac,ab", api.ErrOrder},
	} {
		db := api.Database{Constants: []string{"x"}}
		for i, s := range strings.Split(x.frames, ",") {
			f := api.Frame{Label: "f" + strconv.Itoa(i), Text: []string{"x"}}
			for _, l := range s {
				f.Hyps = append(f.Hyps, premise(string(l)))
			}
			db.Frames = append(db.Frames, f)
		}
		if e := Check(db); e != x.e {
			t.Errorf("Check of %s: %d, want %d", x.frames, e, x.e)
		}
		last := &db.Frames[len(db.Frames)-1]
		last.Proof = []string{"?"}
		if e := Check(db); e != api.ErrForm {
			t.Errorf("Check of %s with a proof: %d", x.frames, e)
		}
	}
}

// P5.1: the most hypotheses and dummies.
func TestCheckSizes(t *testing.T) {
	db := api.Database{Constants: []string{"c"}, Variables: symbols("v", api.MaxHyps+1)}
	f := api.Frame{Label: "f", Text: []string{"c"}}
	for i, v := range db.Variables {
		f.Hyps = append(f.Hyps, api.Hyp{Label: "e" + strconv.Itoa(i), Text: []string{"c"}})
		f.Dummies = append(f.Dummies, float("f"+strconv.Itoa(i), "c", v))
	}
	for _, x := range []struct {
		hyps, dummies int
		e             api.Errno
	}{{api.MaxHyps, api.MaxHyps, api.OK}, {api.MaxHyps + 1, 0, api.ErrSize}, {0, api.MaxHyps + 1, api.ErrSize}} {
		g := f
		g.Hyps, g.Dummies = f.Hyps[:x.hyps], f.Dummies[:x.dummies]
		db.Frames = []api.Frame{g}
		if e := Check(db); e != x.e {
			t.Errorf("Check of %d and %d: %d, want %d", x.hyps, x.dummies, e, x.e)
		}
	}
}

// P5.1: the most frames.
func TestCheckFull(t *testing.T) {
	db := api.Database{Constants: []string{"c"}}
	for _, l := range symbols("f", api.MaxFrames) {
		db.Frames = append(db.Frames, api.Frame{Label: l, Text: []string{"c"}})
	}
	if e := Check(db); e != api.OK {
		t.Errorf("the most frames: %d", e)
	}
	db.Frames = append(db.Frames, api.Frame{Label: "f", Text: []string{"c"}})
	if e := Check(db); e != api.ErrFull {
		t.Errorf("one frame too many: %d", e)
	}
}
