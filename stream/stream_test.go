package stream

import (
	"slices"
	"strings"
	"testing"

	"apodixis/api"
)

// logic has implication, equality, and assertions that need disjointness; empty is a formula without symbols behind its typecode.
const logic = `$c wff set |- ( ) -> = $. $v p q r x y $.
wp $f wff p $. wq $f wff q $. wr $f wff r $. vx $f set x $. vy $f set y $.
wi $a wff ( p -> q ) $. weq $a wff x = y $. empty $a wff $.
a1 $a |- ( p -> ( q -> p ) ) $.
${ m $e |- p $. j $e |- ( p -> q ) $. mp $a |- q $. $}
${ $d x p $. $d x y $. ax $a |- ( x = y -> p ) $. $}
`

func named(label string, code api.Errno, step int) Named {
	return Named{label, api.Verdict{Code: code, Step: step}}
}

// P10.1: verdicts, each code at its step.
func TestVerdicts(t *testing.T) {
	many := func(s string, n int) string { return strings.Repeat(s, n) }
	for _, x := range []struct {
		theorem string
		code    api.Errno
		step    int
	}{
		{"t $p |- ( p -> ( q -> p ) ) $= wp wq a1 $.", api.OK, 0},
		{"t $p |- ( p -> ( q -> p ) ) $= ( a1 ) ABC $.", api.OK, 0},
		{"t $p |- ( p -> ( q -> p ) ) $= ( a1 ) A B C $.", api.OK, 0},
		{"t $p wff p $= wp $.", api.OK, 0},
		{"t $p wff $= empty $.", api.OK, 0},
		{"t $p wff ( -> p ) $= empty wp wi $.", api.OK, 0},
		{"t $p |- ( p -> ( -> p ) ) $= wp empty a1 $.", api.OK, 0},
		{"${ h $e |- p $. t $p |- ( q -> p ) $= wp wq wp wi h wp wq a1 mp $. $}", api.OK, 0},
		{"${ h $e |- p $. t $p |- ( q -> p ) $= ( wi a1 mp ) ABADCABEF $. $}", api.OK, 0},
		{"t $p wff ( ( p -> p ) -> ( p -> p ) ) $= ( wi ) AABZCB $.", api.OK, 0},
		{"t $p wff ( ( p -> p ) -> ( p -> p ) ) $= ( wi ) AZDBZEB $.", api.ErrCode, 0},
		{"t $p wff ( ( p -> p ) -> ( p -> p ) ) $= ( wi ) AZCBZDB $.", api.OK, 0},
		{"t $p wff q $= ( wr ) A $.", api.OK, 0},
		{"t $p wff ( q -> r ) $= ( wp wi ) ABD $.", api.OK, 0},
		{"${ $d x p $. $d x y $. t $p |- ( x = y -> p ) $= wp vx vy ax $. $}", api.OK, 0},
		{"${ $d p y x $. t $p |- ( x = y -> ( p -> p ) ) $= wp wp wi vx vy ax $. $}", api.OK, 0},
		{"${ $d x y $. t $p |- ( x = y -> ) $= empty vx vy ax $. $}", api.OK, 0},

		{"t $p |- p $= ( a1 $.", api.ErrList, 0},
		{"t $p |- p $= ( a1 a1 ) A $.", api.ErrList, 0},
		{"t $p |- p $= ( wp ) A $.", api.ErrList, 0},
		{"${ h $e |- p $. t $p |- p $= ( h ) A $. $}", api.ErrList, 0},
		{"t $p |- p $= ( ? ) A $.", api.ErrList, 0},
		{"t $p |- p $= ( ( ) A $.", api.ErrList, 0},
		{"t $p |- p $= ( a? ) A $.", api.ErrList, 0},
		{"t $p |- p $= ( " + many("l", api.MaxLabel+1) + " ) A $.", api.ErrList, 0},
		{"t $p |- p $= ( " + many("l", api.MaxLabel) + " ) A $.", api.ErrProves, 1},
		{"t $p |- p $= ( wp ) a $.", api.ErrList, 0}, // ahead of ErrCode
		{"t $p |- p $= ( ) a $.", api.ErrCode, 0},
		{"t $p |- p $= ( ) - $.", api.ErrCode, 0},
		{"t $p |- p $= ( ) 1 $.", api.ErrCode, 0},
		{"t $p |- p $= ( ) ) $.", api.ErrCode, 0},
		{"t $p |- p $= ( ) ( $.", api.ErrCode, 0},
		{"t $p |- p $= ( ) Z $.", api.ErrCode, 0},
		{"t $p |- p $= ( ) AZZ $.", api.ErrCode, 0},
		{"t $p |- p $= ( ) A?Z $.", api.ErrCode, 0},
		{"t $p |- p $= ( ) U? $.", api.ErrCode, 0},
		{"t $p |- p $= ( ) AUZ $.", api.ErrCode, 0},
		{"t $p |- p $= ( ) AU $.", api.ErrCode, 0},
		{"t $p |- p $= ( ) B $.", api.ErrCode, 0},
		{"t $p |- p $= ( a1 ) C $.", api.ErrCode, 0},
		{"t $p |- p $= ( a1 ) BZ $.", api.ErrStack, 0},
		{"t $p |- p $= ( a1 ) CZ $.", api.ErrCode, 0}, // the tag is not ahead of it
		{"t $p |- p $= ( ) UA $.", api.ErrCode, 0},
		{"t $p |- p $= ( ) " + many("Y", 3000) + "T $.", api.ErrCode, 0},
		{"t $p |- p $= ( ) " + many("Y", 3000) + " $.", api.ErrCode, 0},
		{"t $p |- p $= ( ) ?a $.", api.ErrCode, 0}, // ahead of ErrUnknown
		{"t $p |- p $= ( ) " + many("A", api.MaxSteps) + "B $.", api.ErrCode, 0},
		{"t $p |- p $= ( ) " + many("A", api.MaxSteps+1) + " $.", api.ErrSteps, 0},
		{"t $p |- p $= ( ) ?" + many("A", api.MaxSteps) + " $.", api.ErrSteps, 0},
		{"t $p |- p $= ( ) AZ" + many("B", api.MaxSteps-1) + " $.", api.ErrStack, api.MaxSteps},
		{"t $p |- p $= " + many("wp ", api.MaxSteps) + "$.", api.ErrStack, api.MaxSteps},
		{"t $p |- p $= " + many("wp ", api.MaxSteps+1) + "$.", api.ErrSteps, 0},
		{"t $p |- p $= ? " + many("wp ", api.MaxSteps) + "$.", api.ErrSteps, 0},

		{"t $p |- p $= ? $.", api.ErrUnknown, 0},
		{"t $p |- p $= wp ? no $.", api.ErrUnknown, 1},
		{"t $p |- p $= ( ) A? $.", api.ErrUnknown, 1},
		{"t $p |- p $= no $.", api.ErrLabel, 0},
		{"t $p |- p $= wp t $.", api.ErrLabel, 1},
		{"t $p |- p $= m $.", api.ErrLabel, 0}, // not active any more
		{"t $p |- p $= wp ( $.", api.ErrLabel, 1},
		{"t $p |- p $= wp ) $.", api.ErrLabel, 1},
		{"t $p |- p $= wp a?b $.", api.ErrLabel, 1},
		{"t $p |- p $= p $.", api.ErrLabel, 0},
		{"t $p |- p $= " + many("l", 300) + " $.", api.ErrLabel, 0},
		{"t $p |- p $= ( m no t ) AB $.", api.ErrLabel, 1},
		{"t $p |- p $= ( m no t ) AD $.", api.ErrLabel, 1},
		{"t $p |- p $= wi $.", api.ErrStack, 0},
		{"t $p |- p $= wp wi $.", api.ErrStack, 1},
		{"t $p |- p $= wp vx a1 $.", api.ErrKind, 2},
		{"t $p |- p $= vx wp a1 $.", api.ErrKind, 2},
		{"${ h $e |- p $. t $p |- p $= wp h a1 $. $}", api.ErrKind, 2},
		{"${ h $e |- p $. t $p |- p $= wp vx wp wp mp $. $}", api.ErrKind, 4},   // ahead of ErrMatch
		{"${ h $e |- p $. t $p |- q $= wp wq h h mp $. $}", api.ErrMatch, 4},    // the second premise
		{"${ h $e |- p $. t $p |- q $= wq wp h h mp $. $}", api.ErrMatch, 4},    // the first one
		{"${ h $e |- p $. t $p |- q $= wp empty h h mp $. $}", api.ErrMatch, 4}, // too short
		{"${ h $e |- ( p -> q ) $. t $p |- q $= empty wq h h mp $. $}", api.ErrMatch, 4},
		{"t $p |- p $= vx vy wp ax $.", api.ErrKind, 3},
		{"t $p |- ( x = y -> p ) $= wp vx vy ax $.", api.ErrApart, 3},
		{"${ $d x y $. t $p |- ( x = y -> p ) $= wp vx vy ax $. $}", api.ErrApart, 3},
		{"${ $d x p $. t $p |- ( x = y -> p ) $= wp vx vy ax $. $}", api.ErrApart, 3},
		{"${ $d x p y $. t $p |- ( x = x -> p ) $= wp vx vx ax $. $}", api.ErrApart, 3},
		{"${ $d x p y $. t $p |- ( x = y -> q ) $= wp wq wi vx vy ax $. $}", api.ErrApart, 5},
		{"${ $d x p q $. ${ $d x y $. $} t $p |- ( x = y -> q ) $= wp vx vy ax $. $}", api.ErrApart, 3}, // not active any more
		{"t $p |- p $= $.", api.ErrStack, 0},
		{"t $p |- p $= ( ) $.", api.ErrStack, 0},
		{"t $p |- p $= wp wp $.", api.ErrStack, 2},
		{"t $p wff p $= wp wp $.", api.ErrStack, 2},
		{"t $p |- p $= wp $.", api.ErrProves, 1},
		{"t $p wff p $= wq $.", api.ErrProves, 1},
		{"t $p wff ( p -> q ) $= wq wp wi $.", api.ErrProves, 3},
		{"t $p wff p $= empty $.", api.ErrProves, 1},
		{"t $p wff $= wp $.", api.ErrProves, 1},
	} {
		want := named("t", x.code, x.step)
		for _, text := range []string{logic + x.theorem, logic + x.theorem + " ", logic + "$( t $p $) " + strings.ReplaceAll(x.theorem, " ", "\n$( $c $)\f")} {
			if len(strings.Fields(text)) > api.MaxTokens || len(text) > api.MaxSource {
				continue
			}
			if l, e := Verify(text); e != api.OK || !slices.Equal(l, []Named{want}) {
				t.Errorf("Verify of %.99q: %v, %d, want %v", x.theorem, l, e, want)
			}
			agree(t, text)
		}
	}
}

// P10.1: what is refused, and what is almost the same and is not.
func TestRefused(t *testing.T) {
	long := strings.Repeat("l", api.MaxLabel)
	for _, s := range []string{
		"$c a", "a", "$( a", "$( $)  x", "${", "${ ${ $}", "t $p |- p $= ?", "$", "$.x", "$c a $.b", "$[ f $]", // at the end
		"\x00", "\x7f", "\x0b", "é", "$( \x01 $)", "$( é $)",
		"$)", "$( $( $)", "$( $( $) $)", "x$( $)", "$( x$) $)", "$( $)x $)", "$($)", "$(x $)", "$( $(x $)", "$c a$)b $.", "$) $(",
		"$.", "$=", "$a |- p $.", "$f wff p $.", "$e |- p $.", "$p |- p $= ? $.", "k $c a $.", "k $v a $.", "k $d x y $.", "k ${ $}", "k $}", "k l $.", "k $. ", "k $= $.", "$x $.", "( $.",
		"$c $.", "$v $.", "$d $.", "k $a $.", "k $e $.", "k $p $= ? $.", "k $p |- p $.", "k $p $.", "k $f $.", "k $f wff $.", "$v a $. k $f wff a a $.", "$c a$ $.", "$c a $= $.", "k $a |- p $= $.", "k $p |- p $= ? $= $.",
		"$c a ${ $}", "k $p |- p $= ${ $}", "$c a $c b $.", "$c a $v b $.", "k $a |- $a p $.", "$[ f $] $.", "$c $[ $.", "k $p |- p $= $[ $.", "k $p |- p $= $c $.",
		"k $p |- p $= -> $.", "k $p |- p $= ? ! $.", "k $p |- p $= (( $.", "k $p |- p $= a$ $.",
		"$c " + long + "l $.", "$v " + long + "l $.", long + "l $a |- p $.", "-> $a |- p $.", "a$ $a |- p $.", "(k $a |- p $.",
		"$}", "${ $} $}", "${ $c a $. $}", "$c p $.", "$c ( $.", "$c a a $.", "$c wp $.", "$c a1 $.", "$c m $.", "${ $v a $. $} $c a $.", "$c t $. t $p |- p $= ? $.",
		"$v p $.", "$v ( $.", "$v a a $.", "$v wp $.", "$v a1 $.", "$v m $.", "${ $v p $. $}", "${ $v a $. ${ $v a $. $} $}", "$v a $. $v a $.",
		"$d p $.", "$d p p $.", "$d p q p $.", "$d p ( $.", "$d p a $.", "${ $v a $. $} $d p a $.",
		"wp $a |- p $.", "m $a |- p $.", "a1 $a |- p $.", "p $a |- p $.", "wff $a |- p $.", "${ $v a $. $} a $a |- p $.", "k $a |- p $. k $a |- p $.", "${ k $e |- p $. $} k $a |- p $.", "wp $f wff p $.", "p $e |- p $.",
		"k $a a p $.", "k $a p $.", "k $a p p $.", "k $a |- a $.", "${ $v a $. wa $f wff a $. $} k $a |- a $.", "$v a $. k $a |- a $.", "$v a $. ${ wa $f wff a $. $} k $a |- a $.", "$v a $. k $e |- a $.", "k $p |- a $= ? $.", "k $e p $.",
		"k $f wff ( $.", "k $f p q $.", "k $f wff a $.", "k $f a p $.", "k $f wff p $.", "$v a $. k $f wff a $. y1 $f wff a $.", "$v a $. ${ k $f wff a $. $} y1 $f set a $.", "${ $v a $. k $f wff a $. $} ${ $v a $. y1 $f set a $. $}", "$v a $. k $f p a $.", "k $f wff wff $.",
	} {
		if l, e := Verify(logic + s); e != ErrText || l != nil {
			t.Errorf("Verify of %q: %v, %d", s, l, e)
		}
		agree(t, logic+s)
		r := New()
		_, e := r.Feed(logic + s)
		if l, f := r.Close(); f != ErrText || l != nil {
			t.Errorf("Close behind %q: %v, %d, %d", s, l, e, f)
		}
		if tokens, assertions := r.Counts(); tokens != 0 || assertions != 0 {
			t.Errorf("Counts behind %q: %d, %d", s, tokens, assertions)
		}
		if l, f := r.Feed(""); f != ErrText || l != nil {
			t.Errorf("Feed behind %q: %v, %d", s, l, f)
		}
	}
	for _, s := range []string{
		"", "  ", "$( $)", "$( x $) $( $c $. ${ $} $[ wp $a $)", "$( ( ) $. $$ ( $)", "$c a $. $v b $.", "$c a b ^ $. $v $( c $) d $.", "$c ! ~ $. $( ! ~ $)", "$v ! $. k $f wff ! $. l $a |- ! $.", "${ $}", "${ ${ $} ${ $} $}",
		"$c " + long + " $.", long + " $a |- p $.", "k.-_9 $a |- p $.", "$v a $. $( $) $v b $.",
		"${ $v a $. $} ${ $v a $. $} $v a $.", "${ $v a $. k $f wff a $. $} ${ $v a $. y1 $f wff a $. b $a |- a $. $}", "$v a $. ${ k $f wff a $. $} y1 $f wff a $. b $a |- a $.",
		"$d p q $.", "$v a b $. $d a b $.", "${ $d p q r $. $}", "$d p q $. $d q p $.", "k $a |- |- $.", "k $a |- $.", "k $e |- p $.", "k $e wff p $. b $a |- p $.", "$v a $. a-a $f |- a $.", "k $p |- p $= $.",
	} {
		if l, e := Verify(logic + s); e != api.OK || len(l) != strings.Count(s, "$p") {
			t.Errorf("Verify of %q: %v, %d", s, l, e)
		}
		agree(t, logic+s)
	}
}

// P10.1: what a call returns when it is refused, or the text was closed, or there is no reader.
func TestCalls(t *testing.T) {
	const first, second = "t $p wff p $= wp $. ", "u $p |- p $= wp $. "
	count := len(strings.Fields(logic))
	r := New()
	for _, x := range []struct {
		piece              string
		tokens, assertions int
	}{
		{"", 0, 0}, {logic, count, 6}, {"", count, 6}, {"$( x y", count + 2, 6}, {" $", count + 3, 6}, {") ", count + 4, 6}, {"a $a |- p $.", count + 8, 6}, {"\n", count + 9, 7},
	} {
		l, e := r.Feed(x.piece)
		if tokens, assertions := r.Counts(); e != api.OK || len(l) != 0 || tokens != x.tokens || assertions != x.assertions {
			t.Errorf("Feed(%.9q): %v, %d, Counts %d, %d", x.piece, l, e, tokens, assertions)
		}
	}

	r = New()
	if l, e := r.Feed(logic + first + second); e != api.OK || !slices.Equal(l, []Named{named("t", api.OK, 0), named("u", api.ErrProves, 1)}) {
		t.Errorf("Feed of two theorems: %v, %d", l, e)
	}
	if l, e := r.Feed("v $p wff p $= wp $."); e != api.OK || len(l) != 0 {
		t.Errorf("Feed of a theorem that may go on: %v, %d", l, e)
	}
	if l, e := r.Close(); e != api.OK || !slices.Equal(l, []Named{named("v", api.OK, 0)}) {
		t.Errorf("Close: %v, %d", l, e)
	}
	tokens, assertions := r.Counts()
	for _, piece := range []string{"", " ", "$c a $.", "\x01", strings.Repeat(" ", api.MaxSource+1)} {
		if l, e := r.Feed(piece); e != api.ErrClosed || l != nil {
			t.Errorf("Feed of %.9q behind Close: %v, %d", piece, l, e)
		}
		if l, e := r.Close(); e != api.ErrClosed || l != nil {
			t.Errorf("Close behind Close: %v, %d", l, e)
		}
	}
	if x, y := r.Counts(); x != tokens || y != assertions || y != 9 || x != len(strings.Fields(logic+first+second))+7 {
		t.Errorf("Counts behind Close: %d, %d, want %d, %d", x, y, tokens, assertions)
	}

	r = New()
	if l, e := r.Feed(logic + first + "$c p $."); e != api.OK || len(l) != 1 {
		t.Errorf("Feed ahead of a wrong end: %v, %d", l, e)
	}
	if l, e := r.Feed(" "); e != ErrText || l != nil {
		t.Errorf("Feed of a wrong end: %v, %d", l, e)
	}

	var none *Reader
	if l, e := none.Feed("\x01"); e != api.ErrArg || l != nil {
		t.Errorf("Feed of nil: %v, %d", l, e)
	}
	if l, e := none.Close(); e != api.ErrArg || l != nil {
		t.Errorf("Close of nil: %v, %d", l, e)
	}
	if x, y := none.Counts(); x != 0 || y != 0 {
		t.Errorf("Counts of nil: %d, %d", x, y)
	}
}

// P10.1: a text is refused as soon as its end is not needed to know it, and not ahead of this.
func TestAsSoonAs(t *testing.T) {
	for _, pieces := range [][]string{ // the last piece of each is refused
		{"\x01"}, {"$c a", "\x01"}, {"$( a ", "\x01"}, {"$(", "\n$", "( "}, {"$)", " "}, {"x$(", " "}, {"x$(y", "\t"}, {"$( $", ")x", "\f"},
		{"$c a $v b ", "$.", " "}, {"$c ", "${", " "}, {"$}", " "}, {"$=", " $( $) ", "a $c b ", "$.", " "}, {"$[ f ", "$] ", "$( $) ", "$. "},
		{"x y z ", "${ "}, {"$c a $. ", "$c a ", "$.", "\r"}, {"${ ", "$c ", "a ", "$. "}, {"x $p |- ", "p ", "$= ? ", "$. "}, {"x $a a ", "b c ", "$. "}, {"$x", " ", "$} "}, {"$c a$ ", "b c ", "$. "},
	} {
		r := New()
		for i, piece := range pieces {
			l, e := r.Feed(piece)
			if want := i == len(pieces)-1; (e == ErrText) != want || e != api.OK && !want || l != nil {
				t.Errorf("%q, piece %d: %v, %d", pieces, i, l, e)
			}
		}
	}
}

// P10.1: the examples of the chapter.
func TestExamples(t *testing.T) {
	const text = "$c wff |- $. $v p $. wp $f wff p $. i $e |- p $. t $p |- p $= i $."
	if l, e := Verify(text); e != api.OK || !slices.Equal(l, []Named{named("t", api.OK, 0)}) {
		t.Errorf("%v, %d", l, e)
	}
	cut := strings.TrimSuffix(text, " $.")
	r := New()
	if l, e := r.Feed(cut); e != api.OK || len(l) != 0 {
		t.Errorf("Feed: %v, %d", l, e)
	}
	if l, e := r.Close(); e != ErrText || l != nil {
		t.Errorf("Close: %v, %d", l, e)
	}
	if l, e := Verify(cut); e != ErrText || l != nil {
		t.Errorf("Verify: %v, %d", l, e)
	}
	for proof, want := range map[string]Named{"wp": named("t", api.ErrProves, 1), "?": named("t", api.ErrUnknown, 0), "x": named("t", api.ErrLabel, 0)} {
		if l, e := Verify(strings.Replace(text, "$= i", "$= "+proof, 1)); e != api.OK || !slices.Equal(l, []Named{want}) {
			t.Errorf("with the proof %s: %v, %d", proof, l, e)
		}
	}
}
