package compress

import (
	"math/rand"
	"regexp"
	"slices"
	"strings"
	"testing"

	"apodixis/api"
)

// P8.1, P8.2: each number has letters, whose number it is.
func TestLetters(t *testing.T) {
	for n, want := range map[int]string{1: "A", 2: "B", 20: "T", 21: "UA", 40: "UT", 41: "VA", 120: "YT", 121: "UUA", 140: "UUT", 620: "YYT", 621: "UUUA", MaxNumber - 1: "VYXXXXXS", MaxNumber: "VYXXXXXT"} {
		if s, e := Letters(n); e != api.OK || s != want {
			t.Errorf("Letters of %d: %s, %d, want %s", n, s, e, want)
		}
	}
	for _, n := range []int{0, -1, -1 << 63, MaxNumber + 1, 1<<63 - 1} {
		if s, e := Letters(n); e != api.ErrRange || s != "" {
			t.Errorf("Letters of %d: %q, %d", n, s, e)
		}
	}
	before := ""
	for n := 1; n <= MaxNumber; n++ {
		s, e := Letters(n)
		l, at, f := Numbers(s)
		if e != api.OK || f != api.OK || at != 0 || len(l) != 1 || l[0] != n {
			t.Fatalf("Letters of %d: %s, %d; its numbers: %v, %d, %d", n, s, e, l, at, f)
		}
		if len(s) < len(before) || len(s) == len(before) && s <= before {
			t.Fatalf("Letters of %d: %s behind %s", n, s, before)
		}
		before = s
	}
}

// P8.1: the errors of Numbers in their order, and where they are.
func TestNumbers(t *testing.T) {
	for _, x := range []struct {
		s    string
		at   int
		want []int // nil: there is an error
	}{
		{"", 0, []int{}}, {"A", 0, []int{1}}, {"AZ?TUA", 0, []int{1, Save, Unknown, 20, 21}}, {"??", 0, []int{Unknown, Unknown}}, {"VYXXXXXTZ", 0, []int{MaxNumber, Save}},
		{"Z", 0, nil}, {"AZZ", 2, nil}, {"?Z", 1, nil}, {"A?Z", 2, nil}, {"AZA?ZU", 4, nil},
		{"U", 1, nil}, {"AYU", 3, nil}, {"UZ", 1, nil}, {"U?", 1, nil}, {"AUUZ", 3, nil},
		{"a", 0, nil}, {"A ", 1, nil}, {"@", 0, nil}, {"[", 0, nil}, {"A>", 1, nil}, {"U0", 1, nil}, {"AZ\x00", 2, nil}, {"A\xff", 1, nil},
		{"VYXXXXYA", 7, nil}, {"VYXXXXYT", 7, nil}, {"VYXXXXY", 7, nil},
		{"YYYYYYYYY", 8, nil}, {"YYYYYYYYA", 8, nil}, {"AYYYYYYYYYYYYYYYYYYYYYYYYYYYYYYYYY", 9, nil},
		{"VVWXXXXXY", 9, nil}, {"VVWXXXXXYA", 9, nil}, {"VVWXXXXYU", 8, nil}, // 1000000 and 1000001, without a last letter
		{"YYYYYYYYZ", 8, nil}, {"UUUUUUUUUU", 9, nil}, {"UUUUUUUUUA", 9, nil},
	} {
		l, at, e := Numbers(x.s)
		if x.want == nil && (e != api.ErrCode || at != x.at || l != nil) || x.want != nil && (e != api.OK || at != 0 || !slices.Equal(l, x.want)) {
			t.Errorf("Numbers of %q: %v, %d, %d, want %d, %v", x.s, l, at, e, x.at, x.want)
		}
	}
	most := strings.Repeat("A", api.MaxSource)
	if l, at, e := Numbers(most); e != api.OK || at != 0 || len(l) != api.MaxSource {
		t.Errorf("the most letters: %d, %d, %d", len(l), at, e)
	}
	for _, s := range []string{most + "A", "!" + most} {
		if l, at, e := Numbers(s); e != api.ErrSize || at != 0 || l != nil {
			t.Errorf("a letter too many: %d, %d, %d", len(l), at, e)
		}
	}
}

var possible = regexp.MustCompile(`^(?:[U-Y]*[A-T]Z?|\?)*[U-Y]*$`)
var units = regexp.MustCompile(`[U-Y]*[A-T]|[U-Y]+$`)

// beginning reports whether letters may be the beginning of right ones.
func beginning(s string) bool {
	if !possible.MatchString(s) {
		return false
	}
	for _, u := range units.FindAllString(s, -1) {
		n := 0
		for _, c := range u {
			if c >= 'U' {
				n = n*5 + strings.IndexRune("UVWXY", c) + 1
			} else {
				n = n*20 + int(c-'A') + 1
			}
			if n > MaxNumber {
				return false
			}
		}
	}
	return true
}

// P8.1: Numbers fails at the first byte with which letters are the beginning of no right ones.
func TestBeginnings(t *testing.T) {
	r := rand.New(rand.NewSource(8))
	for range 20000 {
		signs := []string{"AT?ZUYa", "ABUVYYYYYY", "ATZZ???U"}[r.Intn(3)]
		s := ""
		for range r.Intn(14) {
			s += string(signs[r.Intn(len(signs))])
		}
		at := 0
		for at < len(s) && beginning(s[:at+1]) {
			at++
		}
		isRight := at == len(s) && (s == "" || s[at-1] < 'U' || s[at-1] > 'Y')
		l, got, e := Numbers(s)
		if isRight && (e != api.OK || got != 0) || !isRight && (e != api.ErrCode || got != at || l != nil) {
			t.Fatalf("Numbers of %q: %v, %d, %d, want %d", s, l, got, e, at)
		}
	}
}

// randomNumbers returns right numbers of a code.
func randomNumbers(r *rand.Rand, most int) []int {
	var l []int
	for range r.Intn(most + 1) {
		n := 1 + r.Intn([]int{5, 200, MaxNumber}[r.Intn(3)])
		switch k := r.Intn(5); {
		case k == 0:
			n = Unknown
		case k == 1 && len(l) > 0 && l[len(l)-1] > 0:
			n = Save
		}
		l = append(l, n)
	}
	return l
}

// P8.2: the letters of numbers, one after the other, can be divided in one way only.
func TestDivision(t *testing.T) {
	r := rand.New(rand.NewSource(82))
	for range 3000 {
		numbers := randomNumbers(r, 12)
		s := ""
		for _, n := range numbers {
			switch n {
			case Save:
				s += "Z"
			case Unknown:
				s += "?"
			default:
				letters, _ := Letters(n)
				s += letters
			}
		}
		if l, at, e := Numbers(s); e != api.OK || at != 0 || !slices.Equal(l, numbers) {
			t.Fatalf("the numbers of %s: %v, %d, %d, want %v", s, l, at, e, numbers)
		}
	}
}
