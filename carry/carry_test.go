package carry

import (
	"maps"
	"slices"
	"strings"
	"testing"

	"apodixis/api"
	"apodixis/frame"
	"apodixis/layout"
	"apodixis/natural"
	"apodixis/syntax"
)

// A logic with all that there is.
const (
	symbols = `$c wff |- set class ( ) -> -. /\ \/ F. T. A. E. = e. no $. $v p q r x y z C $. wp $f wff p $. wq $f wff q $. wr $f wff r $. vx $f set x $. vy $f set y $. vz $f set z $. cC $f class C $. `
	wffs    = `wi $a wff ( p -> q ) $. wn $a wff -. p $. wa $a wff ( p /\ q ) $. wo $a wff ( p \/ q ) $. wf $a wff F. $. wt $a wff T. $. wal $a wff A. x p $. wex $a wff E. x p $. weq $a wff x = y $. wel $a wff x e. y $. wcl $a wff no C $. cv $a class x $. `
	rules   = `${ m $e |- p $. j $e |- ( p -> q ) $. mp $a |- q $. $} ${ g $e |- p $. gen $a |- A. x p $. $} `
	axioms  = `a1 $a |- ( p -> ( q -> p ) ) $. a2 $a |- ( ( p -> ( q -> r ) ) -> ( ( p -> q ) -> ( p -> r ) ) ) $. a3 $a |- ( ( -. p -> -. q ) -> ( q -> p ) ) $. `
	quants  = `a4 $a |- ( A. x ( p -> q ) -> ( A. x p -> A. x q ) ) $. ${ $d p x $. a5 $a |- ( p -> A. x p ) $. $} sp $a |- ( A. x p -> p ) $. `
	equal   = `id $a |- x = x $. eu $a |- ( x = y -> ( x = z -> y = z ) ) $. `
	whole   = symbols + wffs + rules + axioms + quants + equal
)

// full is the logic of whole.
func full() Logic {
	return Logic{
		Set: "set", Imp: "wi", Not: "wn", And: "wa", Or: "wo", False: "wf", All: "wal", Some: "wex", Eq: "weq",
		Mp: "mp", Gen: "gen", Simp: "a1", Frege: "a2", Transp: "a3", Dist: "a4", Vacuous: "a5", Spec: "sp", Refl: "id", Eucl: "eu",
	}
}

// A logic of terms, without quantifiers.
const terms = `$c wff |- term ( ) -> = 0 S + P R $. $v p q s t u $. wp $f wff p $. ts $f term s $. wq $f wff q $. tt $f term t $. tu $f term u $. ` +
	`zero $a term 0 $. suc $a term S s $. plus $a term ( t + s ) $. weq $a wff s = t $. wi $a wff ( q -> p ) $. wP $a wff P s $. wR $a wff R u s t $. ` +
	`${ j $e |- ( p -> q ) $. m $e |- p $. mp $a |- q $. $} id $a |- s = s $. eu $a |- ( s = t -> ( s = u -> t = u ) ) $. `

// database returns the database of a text.
func database(t *testing.T, s string) api.Database {
	t.Helper()
	l, at, e := layout.Parse(strings.Fields(s))
	if e != api.OK {
		t.Fatalf("%q: %d at %d", s[max(0, len(s)-300):], e, at)
	}
	db, at, e := frame.Database(l)
	if e != api.OK {
		t.Fatalf("%q: %d at %q", s[max(0, len(s)-300):], e, l[at].Label)
	}
	return db
}

// text returns the text of a formula.
func text(t *testing.T, f natural.Formula) string {
	t.Helper()
	s, e := natural.Text(f)
	if e != api.OK {
		t.Fatalf("%v: %d", f, e)
	}
	return s
}

// parsed returns the formula of a text.
func parsed(t *testing.T, s string) natural.Formula {
	t.Helper()
	f, at, e := natural.Parse(s)
	if e != api.OK {
		t.Fatalf("%q: %d at %d", s, e, at)
	}
	return f
}

func isZero(f natural.Formula) bool { return natural.Same(f, natural.Formula{}) }

// replaced returns a text with changes of parts that it has: old, new and so on.
func replaced(t *testing.T, s string, changes ...string) string {
	t.Helper()
	for i := 0; i < len(changes); i += 2 {
		if !strings.Contains(s, changes[i]) {
			t.Fatalf("no %q in %q", changes[i], s)
		}
		s = strings.Replace(s, changes[i], changes[i+1], 1)
	}
	return s
}

// P26.1, P26.5: which logics are right, and which are not in each way.
func TestCheck(t *testing.T) {
	all, none := full(), Logic{}
	least := Logic{Imp: "wi", Mp: "mp"}
	set := func(l Logic, pairs ...string) Logic {
		for i := 0; i < len(pairs); i += 2 {
			*fieldOf(&l, pairs[i]) = pairs[i+1]
		}
		return l
	}
	const imp, mp, gen = "wi $a wff ( p -> q ) $.", "m $e |- p $. j $e |- ( p -> q ) $. mp $a |- q $.", "g $e |- p $. gen $a |- A. x p $."
	for name, x := range map[string]struct {
		changes []string
		l       Logic
		want    api.Errno
	}{
		"all of it":                      {nil, all, api.OK},
		"the least":                      {nil, least, api.OK},
		"nothing":                        {nil, none, ErrLogic},
		"no Imp":                         {nil, set(all, "Imp", ""), ErrLogic},
		"no Mp":                          {nil, set(all, "Mp", ""), ErrLogic},
		"only Imp":                       {nil, Logic{Imp: "wi"}, ErrLogic},
		"only Mp":                        {nil, Logic{Mp: "mp"}, ErrLogic},
		"a Set of no use":                {nil, set(least, "Set", "set"), api.OK},
		"a Set that is no typecode":      {nil, set(least, "Set", "nothing"), api.OK},
		"the Set wff":                    {nil, set(least, "Set", "wff"), ErrLogic},
		"another Set":                    {nil, set(all, "Set", "class"), ErrLogic},
		"no Set":                         {nil, set(all, "Set", ""), ErrLogic},
		"no Set for Eq":                  {nil, set(least, "Eq", "weq"), ErrLogic},
		"no Set for Some":                {nil, set(least, "Some", "wex"), ErrLogic},
		"no Not":                         {nil, set(all, "Not", ""), ErrLogic},
		"no Not and no Transp":           {nil, set(all, "Not", "", "Transp", ""), api.OK},
		"no All":                         {nil, set(all, "All", ""), ErrLogic},
		"no All and no Gen":              {nil, set(all, "All", "", "Gen", "", "Dist", "", "Vacuous", "", "Spec", ""), api.OK},
		"no Eq":                          {nil, set(all, "Eq", "", "Eucl", ""), ErrLogic},
		"no Eq and no axioms of it":      {nil, set(all, "Eq", "", "Eucl", "", "Refl", ""), api.OK},
		"a label of nothing":             {nil, set(all, "And", "none"), ErrLogic},
		"a label of a hypothesis":        {nil, set(all, "False", "wp"), ErrLogic},
		"a label of a premise":           {nil, set(all, "Simp", "m"), ErrLogic},
		"a symbol as a label":            {nil, set(all, "False", "F."), ErrLogic},
		"another field's axiom":          {nil, set(all, "Simp", "a2"), ErrLogic},
		"a syntax axiom as an axiom":     {nil, set(all, "Refl", "weq"), ErrLogic},
		"an axiom as a syntax axiom":     {nil, set(all, "False", "a1"), ErrLogic},
		"And is Imp":                     {nil, set(all, "And", "wi"), ErrLogic},
		"Or is And":                      {nil, set(all, "Or", "wa"), ErrLogic},
		"Or is Imp":                      {nil, set(all, "Or", "wi"), ErrLogic},
		"Some is All":                    {nil, set(all, "Some", "wal"), ErrLogic},
		"And and Or exchanged":           {nil, set(all, "And", "wo", "Or", "wa"), api.OK},
		"All and Some exchanged":         {nil, set(all, "All", "wex", "Some", "wal"), ErrLogic},
		"True as False":                  {nil, set(all, "False", "wt"), api.OK},
		"Eq is another predicate":        {nil, set(least, "Set", "set", "Eq", "wel"), api.OK},
		"Eq with its axioms":             {nil, set(all, "Eq", "wel"), ErrLogic},
		"Not of a class":                 {nil, set(least, "Not", "wcl"), ErrLogic},
		"Not of a set":                   {[]string{"wt $a wff T. $.", "wt $a wff T. x $."}, set(least, "Not", "wt"), ErrLogic},
		"Not is Imp":                     {nil, set(least, "Not", "wi"), ErrLogic},
		"False with an argument":         {nil, set(least, "False", "wn"), ErrLogic},
		"All of two wffs":                {nil, set(least, "Set", "set", "All", "wi"), ErrLogic},
		"All of two sets":                {nil, set(least, "Set", "set", "All", "weq"), ErrLogic},
		"All of a wff and a set":         {[]string{"wt $a wff T. $.", "wt $a wff T. p x $."}, set(least, "Set", "set", "All", "wt"), ErrLogic},
		"Eq of a set and a wff":          {nil, set(least, "Set", "set", "Eq", "wal"), ErrLogic},
		"And of a wff and a set":         {[]string{"wt $a wff T. $.", "wt $a wff T. p x $."}, set(least, "And", "wt"), ErrLogic},
		"an axiom of a class":            {nil, set(least, "False", "cv"), ErrLogic},
		"a class of nothing":             {[]string{"cv $a class x $.", "cv $a class T. $."}, set(least, "False", "cv"), ErrLogic},
		"arguments in another order":     {[]string{imp, "wi $a wff ( q -> p ) $."}, all, api.OK},
		"pairs of a syntax axiom":        {[]string{imp, "${ $d p q $. " + imp + " $}"}, all, api.OK},
		"a theorem as a syntax axiom":    {[]string{"wt $a wff T. $.", "wt $p wff F. $= wf $."}, set(least, "False", "wt"), ErrLogic},
		"an essential hypothesis":        {[]string{"wt $a wff T. $.", "${ h $e wff F. $. wt $a wff T. $. $}"}, set(least, "False", "wt"), ErrLogic},
		"a variable twice elsewhere":     {[]string{"wt $a wff T. $.", "wt $a wff T. x x $."}, least, ErrLogic},
		"a syntax axiom of Set":          {[]string{"wt $a wff T. $.", "wt $a set T. $."}, set(least, "Set", "set", "Eq", "weq", "Refl", "id"), api.OK},
		"a syntax axiom of Set for All":  {[]string{"wt $a wff T. $.", "wt $a set T. $."}, set(least, "Set", "set", "All", "wal"), ErrLogic},
		"a syntax axiom of Set for Some": {[]string{"wt $a wff T. $.", "wt $a set T. $."}, set(least, "Set", "set", "Some", "wex"), ErrLogic},
		"a theorem of Set":               {[]string{"wt $a wff T. $.", "wt $p set x $= vx $."}, set(least, "Set", "set", "All", "wal"), api.OK},
		"an axiom of Set with a premise": {[]string{"wt $a wff T. $.", "${ h $e wff F. $. wt $a set T. $. $}"}, set(least, "Set", "set", "All", "wal"), api.OK},
		"a turnstile for sets":           {nil, set(least, "Set", "|-"), api.OK},
		"Mp in the other order":          {[]string{mp, "j $e |- ( p -> q ) $. m $e |- p $. mp $a |- q $."}, all, api.OK},
		"Mp with other variables":        {[]string{mp, "m $e |- r $. j $e |- ( r -> p ) $. mp $a |- p $."}, all, api.OK},
		"Mp of one variable":             {[]string{mp, "m $e |- p $. j $e |- ( p -> p ) $. mp $a |- p $."}, all, ErrLogic},
		"Mp of the other part":           {[]string{mp, "m $e |- q $. j $e |- ( p -> q ) $. mp $a |- p $."}, all, ErrLogic},
		"Mp of two implications":         {[]string{mp, "m $e |- ( p -> q ) $. j $e |- ( p -> q ) $. mp $a |- q $."}, all, ErrLogic},
		"Mp of two variables":            {[]string{mp, "m $e |- p $. j $e |- q $. mp $a |- q $."}, all, ErrLogic},
		"Mp of three premises":           {[]string{mp, "m $e |- p $. k $e |- p $. j $e |- ( p -> q ) $. mp $a |- q $."}, all, ErrLogic},
		"Mp of one premise":              {[]string{mp, "j $e |- ( p -> q ) $. mp $a |- q $."}, all, ErrLogic},
		"Mp of And":                      {[]string{mp, "m $e |- p $. j $e |- ( p /\\ q ) $. mp $a |- q $."}, all, ErrLogic},
		"Mp with a pair":                 {[]string{mp, "m $e |- p $. j $e |- ( p -> q ) $. $d p q $. mp $a |- q $."}, all, ErrLogic},
		"Mp with a pair of another one":  {[]string{mp, "m $e |- p $. j $e |- ( p -> q ) $. $d p r $. mp $a |- q $."}, all, api.OK},
		"Mp with the typecode wff":       {[]string{mp, "m $e |- p $. j $e |- ( p -> q ) $. mp $a wff q $."}, all, ErrLogic},
		"Mp with a premise of wff":       {[]string{mp, "m $e wff p $. j $e |- ( p -> q ) $. mp $a |- q $."}, all, ErrLogic},
		"Mp as a theorem":                {[]string{mp, "m $e |- p $. j $e |- ( p -> q ) $. mp $p |- q $= ? $."}, all, api.OK},
		"Gen of another variable":        {[]string{gen, "g $e |- p $. gen $a |- A. y p $."}, all, api.OK},
		"Gen of another wff":             {[]string{gen, "g $e |- p $. gen $a |- A. x q $."}, all, ErrLogic},
		"Gen by Some":                    {[]string{gen, "g $e |- p $. gen $a |- E. x p $."}, all, ErrLogic},
		"Gen with a pair":                {[]string{gen, "$d x p $. g $e |- p $. gen $a |- A. x p $."}, all, ErrLogic},
		"Gen without a premise":          {[]string{gen, "gen $a |- A. x p $."}, all, ErrLogic},
		"Simp of one variable":           {[]string{"a1 $a |- ( p -> ( q -> p ) )", "a1 $a |- ( p -> ( p -> p ) )"}, all, ErrLogic},
		"Simp the other way":             {[]string{"a1 $a |- ( p -> ( q -> p ) )", "a1 $a |- ( p -> ( q -> q ) )"}, all, ErrLogic},
		"Simp of other variables":        {[]string{"a1 $a |- ( p -> ( q -> p ) )", "a1 $a |- ( r -> ( p -> r ) )"}, all, api.OK},
		"Simp with a pair":               {[]string{"a1 $a |- ( p -> ( q -> p ) )", "$d p q $. a1 $a |- ( p -> ( q -> p ) )"}, all, ErrLogic},
		"Simp of a part":                 {[]string{"a1 $a |- ( p -> ( q -> p ) )", "a1 $a |- ( -. p -> ( q -> -. p ) )"}, all, ErrLogic},
		"Simp with a premise":            {[]string{"a1 $a |- ( p -> ( q -> p ) )", "k $e |- p $. a1 $a |- ( p -> ( q -> p ) )"}, set(all, "Frege", "", "Transp", "", "Dist", "", "Vacuous", "", "Spec", "", "Refl", "", "Eucl", ""), ErrLogic},
		"Simp of no formula":             {[]string{"a1 $a |- ( p -> ( q -> p ) )", "a1 $a |- ( p -> ( q -> p )"}, all, ErrLogic},
		"Simp of the typecode wff":       {[]string{"a1 $a |- ( p -> ( q -> p ) )", "a1 $a class ( p -> ( q -> p ) )"}, all, ErrLogic},
		"a formula with two trees":       {[]string{"wt $a wff T. $.", "wt $a wff ( p -> ( q -> r ) ) $."}, all, ErrLogic},
		"two trees, not needed":          {[]string{"wt $a wff T. $.", "wt $a wff ( p -> ( q -> r ) ) $."}, least, api.OK},
		"Dist of two variables":          {[]string{"( A. x p -> A. x q ) )", "( A. x p -> A. y q ) )"}, all, ErrLogic},
		"Dist with a pair":               {[]string{"a4 $a", "$d p x $. a4 $a"}, set(all, "Spec", "", "Refl", "", "Eucl", ""), ErrLogic},
		"Vacuous without a pair":         {[]string{"$d p x $.", ""}, all, ErrLogic},
		"Vacuous with another pair":      {[]string{"$d p x $.", "$d p y $."}, all, ErrLogic},
		"Vacuous with a further one":     {[]string{"$d p x $.", "$d p x $. $d p y $. $d q x $."}, all, api.OK}, // not mandatory
		"Spec of another variable":       {[]string{"( A. x p -> p )", "( A. y p -> p )"}, all, api.OK},
		"Spec of another wff":            {[]string{"( A. x p -> p )", "( A. x p -> q )"}, all, ErrLogic},
		"Refl of two variables":          {[]string{"x = x", "x = y"}, all, ErrLogic},
		"Eucl of two variables":          {[]string{"( x = z -> y = z )", "( x = y -> y = y )"}, all, ErrLogic},
		"Eucl the other way":             {[]string{"( x = z -> y = z )", "( z = x -> y = z )"}, all, ErrLogic},
		"Eucl of other variables":        {[]string{"eu $a |- ( x = y -> ( x = z -> y = z ) )", "eu $a |- ( z = x -> ( z = y -> x = y ) )"}, all, api.OK},
		"Transp the other way":           {[]string{"( q -> p ) ) $. ", "( p -> q ) ) $. "}, all, ErrLogic},
		"Frege the other way":            {[]string{"( ( p -> q ) -> ( p -> r ) )", "( ( p -> r ) -> ( p -> q ) )"}, all, ErrLogic},
	} {
		db := database(t, replaced(t, whole, x.changes...))
		if e := Check(db, x.l); e != x.want {
			t.Errorf("%s: %d, want %d", name, e, x.want)
		}
		if is := modelRight(db, x.l); is != (x.want == api.OK) {
			t.Errorf("%s: the model says %t", name, is)
		}
	}
}

// P26.1: the errors of databases ahead of those of logics, indices and others.
func TestDatabases(t *testing.T) {
	db := database(t, whole+"th $p |- ( p -> ( q -> p ) ) $= wp wq a1 $.")
	wrong := database(t, whole)
	wrong.Constants[0] = "$"
	loose := database(t, "$c wff |- $. ${ $v p $. wp $f wff p $. a $a |- p $. $} ${ $v p $. wpp $f wff p $. b $a |- p $. $}")
	turnstile := database(t, "$c wff |- -> $. $v p q x $. wp $f wff p $. wq $f wff q $. vx $f |- x $. wi $a wff p -> q $. ${ m $e |- p $. j $e |- p -> q $. mp $a |- q $. $}")
	last := len(db.Frames)
	for name, x := range map[string]struct {
		db   api.Database
		l    Logic
		i    int
		want api.Errno
		own  api.Errno // of functions without an index
	}{
		"right":                     {db, full(), 0, api.OK, api.OK},
		"the last one":              {db, full(), last - 1, api.OK, api.OK},
		"a wrong database":          {wrong, Logic{}, -1, api.ErrForm, api.ErrForm},
		"one that is not settled":   {loose, Logic{}, -1, api.ErrState, api.ErrState},
		"one without a grammar":     {turnstile, Logic{Imp: "wi", Mp: "mp"}, 0, ErrLogic, ErrLogic},
		"a wrong logic":             {db, Logic{}, -1, ErrLogic, ErrLogic},
		"below 0":                   {db, full(), -1, api.ErrRange, api.OK},
		"behind the last one":       {db, full(), last, api.ErrRange, api.OK},
		"far behind":                {db, full(), 1 << 40, api.ErrRange, api.OK},
		"no database":               {api.Database{}, Logic{Imp: "wi", Mp: "mp"}, 0, ErrLogic, ErrLogic},
		"variables without a frame": {api.Database{Variables: []string{"x"}}, Logic{}, 0, api.ErrState, api.ErrState},
	} {
		if e := Check(x.db, x.l); e != x.own {
			t.Errorf("%s: Check: %d, want %d", name, e, x.own)
		}
		f, e := Formula(x.db, x.l, x.i, []string{"|-", "p"})
		if e != x.want || isZero(f) != (e != api.OK) {
			t.Errorf("%s: Formula: %v, %d, want %d", name, f, e, x.want)
		}
		f, e = Closed(x.db, x.l, parsed(t, "p"))
		if e != x.own || isZero(f) != (e != api.OK) {
			t.Errorf("%s: Closed: %v, %d, want %d", name, f, e, x.own)
		}
		d, e := Axiom(x.db, x.l, x.i, "a1", []api.Bind{{Var: "p", Text: []string{"q"}}, {Var: "q", Text: []string{"q"}}})
		if e != x.want || (d.Rule == 0) != (e != api.OK) {
			t.Errorf("%s: Axiom: %v, %d, want %d", name, d, e, x.want)
		}
		want := x.want
		if want == api.OK && x.i == 0 {
			want = api.ErrArg
		}
		c, e := Proof(x.db, x.l, x.i)
		if e != want || isZero(c.Conclusion) != (e != api.OK) || (c.Derivation.Rule == 0) != (e != api.OK) {
			t.Errorf("%s: Proof: %v, %d, want %d", name, c, e, want)
		}
	}
	for name, want := range map[*api.Database]api.Errno{&wrong: api.ErrForm, &loose: api.ErrState, &turnstile: api.ErrNone, {}: api.ErrNone} {
		if l, e := Guess(*name); e != want || l != (Logic{}) {
			t.Errorf("Guess: %v, %d, want %d", l, e, want)
		}
	}
}

// P26.1, P26.5: logics that are found by their forms.
func TestGuess(t *testing.T) {
	found := full()
	found.And, found.Or, found.False, found.Some = "", "", "", ""
	without := func(fields ...string) Logic {
		l := found
		for _, f := range fields {
			*fieldOf(&l, f) = ""
		}
		return l
	}
	with := func(l Logic, pairs ...string) Logic {
		for i := 0; i < len(pairs); i += 2 {
			*fieldOf(&l, pairs[i]) = pairs[i+1]
		}
		return l
	}
	const mp, gen = "m $e |- p $. j $e |- ( p -> q ) $. mp $a |- q $.", "g $e |- p $. gen $a |- A. x p $."
	for name, x := range map[string]struct {
		s    string
		want Logic
		e    api.Errno
	}{
		"all of it":                     {whole, found, api.OK},
		"the rest behind":               {symbols + wffs + quants + equal + axioms + rules, found, api.OK},
		"no Mp":                         {symbols + wffs + axioms + quants, Logic{}, api.ErrNone},
		"Mp in the other order":         {replaced(t, whole, mp, "j $e |- ( p -> q ) $. m $e |- p $. mp $a |- q $."), found, api.OK},
		"another Mp first":              {replaced(t, whole, mp, "m $e |- p $. k $e |- ( p /\\ q ) $. aa $a |- q $. $} ${ mm $e |- p $. j $e |- ( p -> q ) $. mp $a |- q $."), with(without("Not", "Transp", "Simp", "Frege", "Dist", "Vacuous", "Spec", "Eucl"), "Imp", "wa", "Mp", "aa"), api.OK},
		"two of them":                   {whole + "${ mm $e |- p $. jj $e |- ( p -> r ) $. mp2 $a |- r $. $} b1 $a |- ( q -> ( p -> q ) ) $.", found, api.OK},
		"no Gen":                        {replaced(t, whole, gen, "g $e |- p $. gen $a |- p $."), without("All", "Gen", "Dist", "Vacuous", "Spec"), api.OK},
		"neither Gen nor equations":     {replaced(t, symbols+wffs+rules+axioms+quants, gen, "g $e |- p $. gen $a |- p $."), without("Set", "All", "Eq", "Gen", "Dist", "Vacuous", "Spec", "Refl", "Eucl"), api.OK},
		"Gen of Some":                   {replaced(t, whole, gen, "g $e |- p $. gen $a |- E. x p $."), with(without("Dist", "Vacuous", "Spec"), "All", "wex"), api.OK},
		"Gen of a class":                {replaced(t, whole, "wex $a wff E. x p", "wex $a wff E. C p", gen, "g $e |- p $. gen $a |- E. C p $."), Logic{}, ErrLogic}, // a syntax axiom of Set
		"Gen of two wffs":               {replaced(t, whole, gen, "g $e |- p $. k $a |- ( q -> p ) $. gen $a |- A. x p $."), with(found, "Gen", "gen"), api.OK},
		"equations of classes":          {replaced(t, whole, "weq $a wff x = y", "weq $a wff C = C", "id $a |- x = x $. eu $a |- ( x = y -> ( x = z -> y = z ) ) $.", ""), Logic{}, api.ErrNone}, // ErrRepeat
		"other predicates":              {replaced(t, whole, "x = x", "x e. x"), with(without("Eucl"), "Eq", "wel"), api.OK},
		"Eucl alone":                    {replaced(t, whole, "id $a |- x = x", "id $a |- x = y"), without("Refl"), api.OK},
		"Eucl of another predicate":     {replaced(t, whole, "id $a |- x = x", "id $a |- x = y", "( x = y -> ( x = z -> y = z ) )", "( x e. y -> ( x e. z -> y e. z ) )"), with(without("Refl"), "Eq", "wel"), api.OK},
		"Eucl of two predicates":        {replaced(t, whole, "id $a |- x = x", "id $a |- x = y", "( x = y -> ( x = z -> y = z ) )", "( x e. y -> ( x = z -> y e. z ) )"), without("Refl", "Eq", "Eucl"), api.OK},
		"an implication as an equation": {replaced(t, whole, "id $a |- x = x", "id $a |- ( p -> p )"), without("Refl"), api.OK},
		"no Transp":                     {replaced(t, whole, "( ( -. p -> -. q )", "( ( -. p -> q )"), without("Not", "Transp"), api.OK},
		"a theorem":                     {replaced(t, whole, "( p -> ( q -> p ) ) $.", "( p -> p ) $. th $p |- ( p -> ( q -> p ) ) $= ? $."), replacedSimp(found, "th"), api.OK},
		"terms":                         {terms, Logic{Set: "term", Imp: "wi", Eq: "weq", Mp: "mp", Refl: "id", Eucl: "eu"}, api.OK},
		"terms with All":                {terms + "$c A. $. wal $a wff A. s p $. ${ g $e |- p $. gen $a |- A. s p $. $}", Logic{}, ErrLogic},
		"only Mp":                       {"$c wff |- -> $. $v p q $. wp $f wff p $. wq $f wff q $. wi $a wff -> p q $. ${ m $e |- p $. j $e |- -> p q $. mp $a |- q $. $}", Logic{Imp: "wi", Mp: "mp"}, api.OK},
	} {
		db := database(t, x.s)
		l, e := Guess(db)
		if l != x.want || e != x.e {
			t.Errorf("%s: %v, %d, want %v, %d", name, l, e, x.want, x.e)
		}
		if e == api.OK && (Check(db, l) != api.OK || l != modelGuess(db)) {
			t.Errorf("%s: the model finds %v", name, modelGuess(db))
		}
	}
}

func replacedSimp(l Logic, label string) Logic {
	l.Simp = label
	return l
}

// P26.1, P26.5: changed databases and logics, as the model has them.
func TestRandomLogics(t *testing.T) {
	words := strings.Fields(whole)
	counts := map[bool]int{}
	for seed := range 150 {
		r := newRandom(seed)
		changed := slices.Clone(words)
		for range r.Intn(3) {
			n := 60 + r.Intn(len(words)-60)
			if w := changed[n]; len(w) < 3 && w[0] != '$' && n > 0 {
				changed[n] = r.pick("p q r x y z ( ) -> = A. E. -.")
			}
		}
		l, _, e := layout.Parse(changed)
		db, _, f := frame.Database(l)
		if e != api.OK || f != api.OK {
			continue
		}
		want := modelGuess(db)
		if want.Mp == "" || !modelRight(db, want) {
			want = Logic{}
		}
		found, e := Guess(db)
		if found != want {
			t.Fatalf("%q: %v, %d, want %v", changed, found, e, want)
		}
		logic := full()
		for range r.Intn(4) {
			field := r.pick(strings.Join(slices.Concat(syntaxFields, ruleFields, []string{"Set"}), " "))
			*fieldOf(&logic, field) = r.pick("wi wn wa wo wf wt wal wex weq wel mp gen a1 a2 a3 a4 a5 sp id eu set class wp none")
			if r.Intn(2) == 0 {
				*fieldOf(&logic, field) = ""
			}
		}
		is := Check(db, logic) == api.OK
		if is != modelRight(db, logic) {
			t.Fatalf("%q: %v: %t", changed, logic, is)
		}
		counts[is]++
	}
	if counts[true] < 20 || counts[false] < 20 {
		t.Errorf("%v", counts)
	}
}

// P26.1: translations, and formulas that have none.
func TestFormula(t *testing.T) {
	db := database(t, whole+"${ $d p x $. $d p z $. $d q y $. $d r x y z $. apart $a |- ( p -> ( q -> r ) ) $. $}")
	l := full()
	bare := Logic{Imp: "wi", Mp: "mp"}
	noSet := full()
	noSet.Set, noSet.All, noSet.Some, noSet.Eq, noSet.Gen, noSet.Dist, noSet.Vacuous, noSet.Spec, noSet.Refl, noSet.Eucl = "", "", "", "", "", "", "", "", "", ""
	for _, x := range []struct {
		frame, text string
		l           Logic
		want        string
		e           api.Errno
	}{
		{"a1", "|- p", l, "p $( x y z $)", 0},
		{"a1", "wff p", l, "p $( x y z $)", 0},
		{"apart", "|- ( p -> ( q -> r ) )", l, "$> p $( y $) $> q $( x z $) r", 0},
		{"a5", "|- p", l, "p $( y z $)", 0},
		{"apart", "|- -. r", l, "$> r $F", 0},
		{"apart", "|- ( r /\\ ( r \\/ r ) )", l, "$& r $| r r", 0},
		{"apart", "|- F.", l, "$F", 0},
		{"apart", "|- T.", l, "wt", 0},
		{"a1", "|- x = y", l, "$= x y", 0},
		{"a1", "|- x e. y", l, "wel $( x y $)", 0},
		{"a1", "|- A. x x = y", l, "$A v0 $= v0 y", 0},
		{"a1", "|- E. y A. x x e. y", l, "$E v0 $A v1 wel $( v1 v0 $)", 0},
		{"a1", "|- A. x p", l, "$A v0 p $( v0 y z $)", 0},
		{"apart", "|- A. x p", l, "$A v0 p $( y $)", 0},
		{"a1", "|- A. x A. x p", l, "$A v0 $A v1 p $( v1 y z $)", 0},
		{"a1", "|- ( p -> A. y ( p -> x = y ) )", l, "$> p $( x y z $) $A v0 $> p $( x v0 z $) $= x v0", 0},
		{"a1", "|- ( p -> q )", bare, "$> p q", 0},
		{"a1", "|- ( p -> F. )", bare, "$> p wf", 0},
		{"a1", "|- -. p", noSet, "$> p $F", 0},
		{"a1", "|- A. x p", bare, "", ErrSyntax},
		{"a1", "|- -. p", bare, "", ErrSyntax},
		{"a1", "|- ( p /\\ q )", bare, "", ErrSyntax},
		{"a1", "|- x = y", bare, "", ErrSyntax},
		{"a1", "|- no C", l, "", ErrSyntax},
		{"a1", "|- no x", l, "", ErrSyntax},
		{"a1", "|- ( p -> no x )", l, "", ErrSyntax},
		{"a1", "set x", l, "", ErrSyntax},
		{"a1", "class C", l, "", ErrSyntax},
		{"a1", "class x", l, "", ErrSyntax},
		{"a1", "|-", l, "", syntax.ErrParse},
		{"a1", "|- p q", l, "", syntax.ErrParse},
		{"a1", "", l, "", api.ErrForm},
		{"a1", "no p", l, "", api.ErrType},
		{"a1", "p p", l, "", api.ErrType},
		{"a1", "wff " + strings.Repeat("-. ", 100) + "p", l, "", api.ErrDepth},
		{"a1", "wff " + strings.Repeat("-. ", 200) + "p", l, "", api.ErrSize},
	} {
		f, e := Formula(db, x.l, frame.Find(db, x.frame), strings.Fields(x.text))
		got := ""
		if e == api.OK {
			got = text(t, f)
		}
		if e != x.e || got != x.want || isZero(f) != (e != api.OK) {
			t.Errorf("%q: %q, %d, want %q, %d", x.text, got, e, x.want, x.e)
		}
	}
	// Terms, whose arguments stand in another order than their hypotheses.
	db = database(t, terms)
	l, _ = Guess(db)
	for s, want := range map[string]string{
		"|- ( p -> q )":           "$> p $( s t u $) q $( s t u $)",
		"|- 0 = S 0":              "$= zero suc $( zero $)",
		"|- ( s + S t ) = 0":      "$= plus $( s suc $( t $) $) zero",
		"|- R s ( t + u ) 0":      "wR $( s plus $( t u $) zero $)",
		"|- ( P S 0 -> P u )":     "$> wP $( suc $( zero $) $) wP $( u $)",
		"wff ( ( p -> q ) -> p )": "$> $> p $( s t u $) q $( s t u $) p $( s t u $)",
	} {
		if f, e := Formula(db, l, 0, strings.Fields(s)); e != api.OK || text(t, f) != want {
			t.Errorf("%q: %v, %d, want %q", s, f, e, want)
		}
	}
}

// P26.1: translations as large and as deep as may be, and larger ones.
func TestFormulaLimits(t *testing.T) {
	var s strings.Builder
	s.WriteString("$c wff set |- -> -. & F. $. $v p q ")
	for n := range 38 {
		s.WriteString(" x" + string(rune('A'+n)))
	}
	s.WriteString(" $. wp $f wff p $. wq $f wff q $. ")
	for n := range 38 {
		s.WriteString("v" + itoa(n) + " $f set x" + string(rune('A'+n)) + " $. ")
	}
	s.WriteString("wi $a wff -> p q $. wn $a wff -. p $. wf $a wff F. $. ${ m $e |- p $. j $e |- -> p q $. mp $a |- q $. $}")
	text := s.String()
	db := database(t, text)
	l := Logic{Set: "set", Imp: "wi", Not: "wn", False: "wf", Mp: "mp"}
	implications := func(n int, tail string) []string { // n of p -> around a tail
		return strings.Fields("|- " + strings.Repeat("-> p ", n) + tail)
	}
	for name, x := range map[string]struct {
		text []string
		want api.Errno
	}{
		"the depth 98":  {implications(97, "F."), api.OK}, // the atoms have terms
		"the depth 100": {implications(98, "F."), api.OK},
		"the depth 101": {implications(99, "F."), api.ErrLarge},
		"negations":     {strings.Fields("|- " + strings.Repeat("-. ", 98) + "p"), api.OK},
		"one more":      {strings.Fields("|- " + strings.Repeat("-. ", 99) + "p"), api.ErrLarge},
	} {
		f, e := Formula(db, l, 0, x.text)
		m, wrong := modelFormula(db, l, x.text, own(db, l, db.Frames[0]))
		if e != x.want || e != wrong || !natural.Same(f, m) {
			t.Errorf("%s: %d, want %d, and %d by the model", name, e, x.want, wrong)
		}
	}
	// 100 atoms with 39 nodes each and 99 implications are 3999 nodes; a Not more has 4001.
	balanced := func(n int) string {
		l := slices.Repeat([]string{"p"}, n)
		for len(l) > 1 {
			var next []string
			for i := 0; i < len(l); i += 2 {
				if i+1 == len(l) {
					next = append(next, l[i])
				} else {
					next = append(next, "-> "+l[i]+" "+l[i+1])
				}
			}
			l = next
		}
		return l[0]
	}
	for s, want := range map[string]api.Errno{balanced(100): api.OK, "-. " + balanced(100): api.ErrLarge} {
		f, e := Formula(db, l, 0, strings.Fields("|- "+s))
		if e != want || isZero(f) != (e != api.OK) {
			t.Errorf("%d, want %d", e, want)
		}
		if e == api.OK {
			if g, e := Closed(db, l, f); e != api.ErrLarge || !isZero(g) { // 38 binders more
				t.Errorf("Closed: %d", e)
			}
		}
	}
}

// P26.1, P26.4: closed formulas, and those that are closed already.
func TestClosed(t *testing.T) {
	db, l := database(t, whole), full()
	chain := func(n int, f natural.Formula) natural.Formula {
		for range n {
			f = natural.Formula{Kind: natural.Implies, Parts: []natural.Formula{f, {Kind: natural.False}}}
		}
		return f
	}
	px := parsed(t, "P $( x $)")
	for _, x := range []struct {
		f    natural.Formula
		want string
		e    api.Errno
	}{
		{parsed(t, "p"), "p", 0},
		{px, "$A v0 P $( v0 $)", 0},
		{parsed(t, "P $( y x $)"), "$A v0 $A v1 P $( v1 v0 $)", 0},
		{parsed(t, "P $( b Z a &1 y Z $)"), "$A v0 $A v1 $A v2 $A v3 $A v4 P $( v3 v1 v2 v0 v4 v1 $)", 0},
		{parsed(t, "P $( wt wi mp th x $)"), "$A v0 $A v1 P $( wt wi mp v0 v1 $)", 0}, // labels of frames stay
		{parsed(t, "P $( wp vx x $)"), "$A v0 $A v1 $A v2 P $( v1 v0 v2 $)", 0},       // those of hypotheses do not
		{parsed(t, "P $( f $( x $) g $( x $) $)"), "$A v0 P $( f $( v0 $) g $( v0 $) $)", 0},
		{parsed(t, "$A y Q $( x y $)"), "$A v0 $A v1 Q $( v0 v1 $)", 0},
		{parsed(t, "$> $E y $= x y $= y z"), "$A v0 $A v1 $A v2 $> $E v3 $= v0 v3 $= v1 v2", 0},
		{natural.Formula{}, "", api.ErrForm},
		{natural.Formula{Kind: natural.Atom, Name: "p", Terms: []natural.Term{{}}}, "", natural.ErrBound},
		{chain(100, px), "", api.ErrSize},
		{chain(99, px), "", api.ErrSize},
		{chain(98, px), "", api.ErrLarge},
		{chain(98, parsed(t, "P $( wt $)")), text(t, chain(98, parsed(t, "P $( wt $)"))), 0},
		{natural.Formula{Kind: natural.Atom, Name: "P", Terms: slices.Repeat(px.Terms, 3998)}, "", 0},
		{natural.Formula{Kind: natural.Atom, Name: "P", Terms: slices.Repeat(px.Terms, 3999)}, "", api.ErrLarge},
	} {
		f, e := Closed(db, l, x.f)
		got := ""
		if e == api.OK && x.want != "" {
			got = text(t, f)
		}
		if e != x.e || got != x.want || isZero(f) != (e != api.OK) {
			t.Errorf("%.80v: %q, %d, want %q, %d", x.f, got, e, x.want, x.e)
		}
		if g, again := Closed(db, l, f); e == api.OK && (again != api.OK || !natural.Same(f, g)) {
			t.Errorf("%.80v: closed again: %v, %d", x.f, g, again)
		}
		for _, name := range natural.Free(f) {
			if frame.Find(db, name) < 0 {
				t.Errorf("%.80v: the parameter %s", x.f, name)
			}
		}
	}
	if f, e := Closed(db, Logic{}, natural.Formula{}); e != ErrLogic || !isZero(f) {
		t.Errorf("the logic ahead of the formula: %d", e)
	}
}

// binds reads bindings such as "p=A. x p,x=x".
func binds(s string) []api.Bind {
	var l []api.Bind
	for _, part := range strings.Split(s, ",") {
		if v, text, ok := strings.Cut(part, "="); ok {
			l = append(l, api.Bind{Var: v, Text: strings.Fields(strings.ReplaceAll(text, "eq", "="))})
		}
	}
	return l
}

// P26.1, P26.3: derivations of the eight axioms.
func TestAxiom(t *testing.T) {
	db := database(t, whole+"${ $d p x $. apart $a |- ( p -> q ) $. $}")
	l := full()
	i := frame.Find(db, "apart")
	for _, x := range []struct{ label, binds, want string }{
		{"a1", "p=p,q=q", "$> p $( y z $) $> q $( x y z $) p $( y z $)"},
		{"a1", "q=A. x q,p=F.", "$> $F $> $A v0 q $( v0 y z $) $F"},
		{"a2", "p=T.,q=F.,r=x eq y", "$> $> wt $> $F $= x y $> $> wt $F $> wt $= x y"},
		{"a3", "p=T.,q=-. F.", "$> $> $> wt $F $> $> $F $F $F $> $> $F $F wt"},
		{"a4", "p=p,q=x e. y,x=y", "$> $A v0 $> p $( v0 z $) wel $( x v0 $) $> $A v0 p $( v0 z $) $A v0 wel $( x v0 $)"},
		{"a4", "p=E. x T.,q=A. x F.,x=x", "$> $A v0 $> $E v1 wt $A v1 $F $> $A v0 $E v1 wt $A v0 $A v1 $F"},
		{"a5", "p=p,x=x", "$> p $( y z $) $A v0 p $( y z $)"},
		{"a5", "p=A. y p,x=y", "$> $A v0 p $( v0 z $) $A v0 $A v1 p $( v1 z $)"},
		{"sp", "p=( p -> x eq y ),x=y", "$> $A v0 $> p $( v0 z $) $= x v0 $> p $( y z $) $= x y"},
		{"id", "x=y", "$= y y"},
		{"eu", "z=x,y=y,x=z", "$> $= z y $> $= z x $= y x"},
		{"eu", "z=x,y=x,x=x", "$> $= x x $> $= x x $= x x"},
	} {
		d, e := Axiom(db, l, i, x.label, binds(x.binds))
		f, path, wrong := natural.Check(nil, nil, d)
		if e != api.OK || wrong != api.OK || text(t, f) != x.want {
			t.Errorf("%s, %s: %v, %d, and %d at %v, want %q", x.label, x.binds, f, e, wrong, path, x.want)
		}
		field := ruleFields[slices.IndexFunc(ruleFields, func(s string) bool { return *fieldOf(&l, s) == x.label })]
		if want := axiomModel(t, db, l, field, i, binds(x.binds)); !sameDerivation(d, want) {
			t.Errorf("%s, %s: %v, want %v", x.label, x.binds, d, want)
		}
	}
	terms := database(t, terms)
	guessed, _ := Guess(terms)
	d, e := Axiom(terms, guessed, 0, "eu", binds("s=( S 0 + t ),t=0,u=S u"))
	if f, _, wrong := natural.Check(nil, nil, d); e != api.OK || wrong != api.OK || text(t, f) != "$> $= plus $( suc $( zero $) t $) zero $> $= plus $( suc $( zero $) t $) suc $( u $) $= zero suc $( u $)" {
		t.Errorf("%v, %d, %d", f, e, wrong)
	}
}

// axiomModel returns the derivation of the model.
func axiomModel(t *testing.T, db api.Database, l Logic, field string, i int, binds []api.Bind) natural.Derivation {
	t.Helper()
	f := db.Frames[frame.Find(db, *fieldOf(&l, field))]
	m, of := map[string]value{}, map[string]value{}
	for _, b := range binds {
		tree, e := syntax.Tree(db, append([]string{frame.Type(db, b.Var)}, b.Text...))
		v, ok := modelTree(db, l, tree, own(db, l, db.Frames[i]))
		if e != api.OK || !ok {
			t.Fatalf("%v: %d", b, e)
		}
		m[labelOf(db, b.Var)] = v
	}
	letters, _ := fitted(db, l, field, f)
	for letter, v := range letters {
		of[letter] = m[labelOf(db, v)]
	}
	d, _ := modelAxiom(db, l, field, f, m, of)
	return d
}

// sameDerivation reports whether two derivations are equal in all fields.
func sameDerivation(a, b natural.Derivation) bool {
	term := func(t natural.Term) natural.Formula {
		return natural.Formula{Kind: natural.Atom, Terms: []natural.Term{t}}
	}
	return a.Rule == b.Rule && a.Index == b.Index && a.Name == b.Name && natural.Same(term(a.Term), term(b.Term)) && natural.Same(a.Formula, b.Formula) && slices.EqualFunc(a.Kids, b.Kids, sameDerivation)
}

// P26.1: the errors of Axiom, in their order.
func TestAxiomErrors(t *testing.T) {
	db, l := database(t, whole), full()
	less := full()
	less.Simp, less.Gen = "", ""
	long := strings.Repeat("( p -> ", 33) + "p" + strings.Repeat(" )", 33) // 133 symbols, the depth 34 and 35 with terms
	deep := strings.Repeat("-. ", 97) + "p"
	for name, x := range map[string]struct {
		l            Logic
		i            int
		label, binds string
		want         api.Errno
	}{
		"right":                      {l, 0, "a1", "p=p,q=q", api.OK},
		"a wrong logic":              {Logic{}, -1, "", "", ErrLogic},
		"no assertion":               {l, -1, "", "", api.ErrRange},
		"no label":                   {l, 0, "", "p=p,q=q", ErrLogic},
		"no label of the logic":      {l, 0, "none", "p=p,q=q", ErrLogic},
		"a rule":                     {l, 0, "mp", "p=p,q=q", ErrLogic},
		"the other rule":             {l, 0, "gen", "p=p,x=x", ErrLogic},
		"a syntax axiom":             {l, 0, "wi", "p=p,q=q", ErrLogic},
		"one that the logic lacks":   {less, 0, "a1", "p=p,q=q", ErrLogic},
		"no label, where one lacks":  {less, 0, "", "", ErrLogic},
		"nothing bound":              {l, 0, "a1", "", api.ErrArg},
		"one not bound":              {l, 0, "a1", "p=p q", api.ErrArg},
		"one bound twice":            {l, 0, "a1", "p=p q,q=q,p=p", api.ErrArg},
		"one for another":            {l, 0, "a1", "p=p q,p=q", api.ErrArg},
		"one too many":               {l, 0, "a1", "p=p q,q=q,r=r", api.ErrArg},
		"another variable":           {l, 0, "a1", "p=p,r=r", api.ErrArg},
		"no formula":                 {l, 0, "a1", "q=no C,p=p q", syntax.ErrParse},
		"an empty one":               {l, 0, "a1", "p=,q=q", syntax.ErrParse},
		"no translation ahead":       {l, 0, "a1", "p=no C,q=q q", ErrSyntax},
		"no translation":             {l, 0, "a1", "q=no C,p=p", ErrSyntax},
		"a variable of another sort": {l, 0, "id", "x=p", syntax.ErrParse},
		"too many symbols":           {l, 0, "a1", "p=" + strings.Repeat("-. ", 200) + "p,q=q", api.ErrSize},
		"too deep":                   {l, 0, "a1", "p=" + strings.Repeat("-. ", 100) + "p,q=q", api.ErrDepth},
		"a translation too deep":     {l, 0, "a1", "p=" + strings.Repeat("-. ", 99) + "p,q=no C", api.ErrLarge},
		"an instance too deep":       {l, 0, "a1", "p=" + deep + ",q=q", api.ErrLarge},
		"an instance not too deep":   {l, 0, "a1", "p=" + deep[3:] + ",q=q", api.OK},
		"a variable that occurs":     {l, 0, "a5", "p=p,x=x", api.ErrApart},
		"one that is bound":          {l, 0, "a5", "p=A. x p,x=x", api.OK},
		"one that occurs, too deep":  {l, 0, "a5", "p=" + deep + " ,x=y", api.ErrApart},
		"one that does not, too":     {l, 0, "a5", "p=" + strings.Repeat("-. ", 99) + "T.,x=y", api.ErrLarge},
		"large":                      {l, 0, "a2", "p=" + long + ",q=" + long + ",r=" + long, api.OK},
	} {
		d, e := Axiom(db, x.l, x.i, x.label, binds(x.binds))
		if e != x.want || (d.Rule == 0) != (e != api.OK) {
			t.Errorf("%s: %v, %d, want %d", name, d, e, x.want)
		}
	}
}

// P26.1: the size of an instance, where each of its formulas is not too large.
func TestAxiomLarge(t *testing.T) {
	var vars, floats []string
	for n := range 30 {
		vars, floats = append(vars, "x"+itoa(n)), append(floats, "v"+itoa(n)+" $f set x"+itoa(n)+" $.")
	}
	db := database(t, "$c wff set |- -> F. $. $v p q r "+strings.Join(vars, " ")+" $. wp $f wff p $. wq $f wff q $. wr $f wff r $. "+strings.Join(floats, " ")+
		" wi $a wff -> p q $. ${ m $e |- p $. j $e |- -> p q $. mp $a |- q $. $} a1 $a |- -> p -> q p $. a2 $a |- -> -> p -> q r -> -> p q -> p r $.")
	l := Logic{Set: "set", Imp: "wi", Mp: "mp", Simp: "a1", Frege: "a2"}
	wide := func(n int) []string { return strings.Fields(strings.Repeat("-> p ", n-1) + "p") } // 31 n + n - 1 nodes
	for _, x := range []struct {
		p, q int
		want api.Errno
	}{
		{62, 1, api.OK},        // 2 * 1983 + 31 + 2 = 3999
		{62, 2, api.ErrLarge},  // 32 more
		{40, 45, api.OK},       // 2 * 1279 + 1439 + 2 = 3999
		{40, 46, api.ErrLarge}, // 32 more
	} {
		d, e := Axiom(db, l, 0, "a1", []api.Bind{{Var: "p", Text: wide(x.p)}, {Var: "q", Text: wide(x.q)}})
		if e != x.want || (d.Rule == 0) != (e != api.OK) {
			t.Errorf("%d and %d: %d, want %d", x.p, x.q, e, x.want)
		}
	}
}

// P26.1: both orders of arguments and of letters are taken from the assertions.
func TestLetters(t *testing.T) {
	db := database(t, terms)
	l, e := Guess(db)
	if want := (Logic{Set: "term", Imp: "wi", Eq: "weq", Mp: "mp", Refl: "id", Eucl: "eu"}); e != api.OK || l != want {
		t.Fatalf("%v, %d", l, e)
	}
	if e := Check(db, l); e != api.OK {
		t.Errorf("%d", e)
	}
	names := slices.Sorted(maps.Keys(own(db, l, db.Frames[0])))
	if !slices.Equal(names, []string{"ts", "tt", "tu", "wp", "wq"}) {
		t.Errorf("%v", names)
	}
}
