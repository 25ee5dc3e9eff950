package glob_test

import (
	"bytes"
	"strings"
	"testing"

	"haversack/api"
	"haversack/glob"
)

// The bytes of words and names, said anew: the tests hold the package against them.
const (
	small   = "abcdefghijklmnopqrstuvwxyz"
	capital = "ABCDEFGHIJKLMNOPQRSTUVWXYZ"
	digits  = "0123456789"

	ofNames    = small + digits + "_.-"
	ofWords    = ofNames + capital + "+!"
	ofPatterns = ofWords + "*"
)

// kinds are the functions that tell what a text is, each with the bytes that its texts are made of.
func kinds() []kind {
	return []kind{{"Word", glob.Word, ofWords}, {"Pattern", glob.Pattern, ofPatterns}, {"Name", glob.Name, ofNames}}
}

type kind struct {
	title string
	is    func(string) bool
	of    string
}

func (k kind) want(s string) bool {
	for _, c := range []byte(s) {
		if strings.IndexByte(k.of, c) < 0 {
			return false
		}
	}
	return len(s) > 0 && len(s) < 41
}

func (k kind) check(t *testing.T, s string) {
	t.Helper()
	if got := k.is(s); got != k.want(s) {
		t.Errorf("%s(%q) answers %v", k.title, s, got)
	}
}

func TestP6_1EachByte(t *testing.T) {
	for _, k := range kinds() {
		for c := range 256 {
			b := string([]byte{byte(c)})
			k.check(t, b)
			k.check(t, b+b)
			for _, rest := range []string{"a", "num-py", "0", "lib_x.9"} {
				k.check(t, b+rest)
				k.check(t, rest+b)
				k.check(t, rest+b+rest)
			}
		}
	}
}

func TestP6_1ByteAtEachPlace(t *testing.T) {
	for _, k := range kinds() {
		for size := 1; size <= api.MaxName; size++ {
			for at := range size {
				for _, b := range []string{"*", "+", "!", "A", "Z", " ", "/", "=", "\x00", "\xff"} {
					k.check(t, strings.Repeat("a", at)+b+strings.Repeat("b", size-at-1))
				}
			}
		}
	}
}

func TestP6_1Sizes(t *testing.T) {
	for _, k := range kinds() {
		for c := range 256 {
			for _, size := range []int{0, 1, 2, 39, 40, 41, 42, 80, 256, 257, 296} {
				k.check(t, strings.Repeat(string([]byte{byte(c)}), size))
			}
		}
		for _, size := range []int{1 << 16, 1<<16 + 1, 1<<16 + 40, 1 << 20} {
			k.check(t, strings.Repeat("a", size))
		}
	}
}

func TestP6_1WordsPatternsNames(t *testing.T) {
	for _, x := range []struct {
		s                   string
		word, pattern, name bool
	}{
		{"", false, false, false},
		{"a", true, true, true},
		{"num-py", true, true, true},
		{"_", true, true, true},
		{".", true, true, true},
		{"-", true, true, true},
		{"0", true, true, true},
		{"py37h_0", true, true, true},
		{"ca-certificates", true, true, true},
		{"Num", true, true, false},
		{"nuM", true, true, false},
		{"A", true, true, false},
		{"Z", true, true, false},
		{"g++", true, true, false},
		{"+", true, true, false},
		{"1!2", true, true, false},
		{"!", true, true, false},
		{"*", false, true, false},
		{"**", false, true, false},
		{"py3*_0", false, true, false},
		{"*A+!", false, true, false},
		{"a b", false, false, false},
		{" a", false, false, false},
		{"a\n", false, false, false},
		{"a/b", false, false, false},
		{"a::b", false, false, false},
		{"a,b", false, false, false},
		{"a|b", false, false, false},
		{"a=b", false, false, false},
		{"a<b", false, false, false},
		{"a~b", false, false, false},
		{"a?b", false, false, false},
		{"[a]", false, false, false},
		{"a\\*", false, false, false},
		{"é", false, false, false},
		{"a\u0131", false, false, false}, // small letters elsewhere
		{"\u212a", false, false, false},  // the sign for kelvin, whose small letter is k
		{"\uff10", false, false, false},
		{"a\xc3", false, false, false},
		{strings.Repeat("a", 40), true, true, true},
		{strings.Repeat("a", 41), false, false, false},
		{strings.Repeat("A", 40), true, true, false},
		{strings.Repeat("A", 41), false, false, false},
		{strings.Repeat("*", 40), false, true, false},
		{strings.Repeat("*", 41), false, false, false},
		{strings.Repeat("é", 20), false, false, false},
	} {
		if got := glob.Word(x.s); got != x.word {
			t.Errorf("Word(%q) answers %v", x.s, got)
		}
		if got := glob.Pattern(x.s); got != x.pattern {
			t.Errorf("Pattern(%q) answers %v", x.s, got)
		}
		if got := glob.Name(x.s); got != x.name {
			t.Errorf("Name(%q) answers %v", x.s, got)
		}
	}
}

// lowered is what Lower should answer, by a table of letters.
func lowered(s string) string {
	var b bytes.Buffer
	for _, c := range []byte(s) {
		if at := strings.IndexByte(capital, c); at >= 0 {
			c = small[at]
		}
		b.WriteByte(c)
	}
	return b.String()
}

func TestP6_1Lower(t *testing.T) {
	for c := range 256 {
		b := string([]byte{byte(c)})
		for _, s := range []string{b, b + b, "Ab" + b, b + "Ab", "zZ" + b + "Aa"} {
			if got := glob.Lower(s); got != lowered(s) {
				t.Errorf("Lower(%q) answers %q", s, got)
			}
		}
	}
	for _, x := range []struct{ s, want string }{
		{"", ""},
		{"a", "a"},
		{"NumPy", "numpy"},
		{capital, small},
		{small, small},
		{"1.0RC1+Local!*", "1.0rc1+local!*"},
		{"@[`{", "@[`{"},
		{"\u00c9\u0130\u212a\u03a3", "\u00c9\u0130\u212a\u03a3"}, // capital letters, but not A to Z
		{"\xc1\xda\xff\x00Q", "\xc1\xda\xff\x00q"},
		{strings.Repeat("X", 100000), strings.Repeat("x", 100000)},
	} {
		if got := glob.Lower(x.s); got != x.want {
			t.Errorf("Lower(%q) answers %q", x.s, got)
		}
	}
}
