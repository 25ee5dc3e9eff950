package glob_test

import (
	"strings"
	"testing"

	"haversack/glob"
)

// matched is what Match should answer, by the chapter's words: told from the end, for each rest of both texts.
func matched(pattern, s string) bool {
	fits := make([]bool, len(s)+1) // whether the rest of the pattern matches the text from there on
	fits[len(s)] = true
	for p := len(pattern) - 1; p >= 0; p-- {
		if pattern[p] == '*' {
			for i := len(s) - 1; i >= 0; i-- {
				fits[i] = fits[i] || fits[i+1]
			}
			continue
		}
		for i := range len(s) {
			fits[i] = pattern[p] == s[i] && fits[i+1]
		}
		fits[len(s)] = false
	}
	return fits[0]
}

// short calls f with each text of up to most bytes of an alphabet.
func short(alphabet string, most int, f func(string)) {
	f("")
	if most == 0 {
		return
	}
	for _, c := range []byte(alphabet) {
		short(alphabet, most-1, func(rest string) { f(string([]byte{c}) + rest) })
	}
}

func texts(alphabet string, most int) []string {
	var all []string
	seen := map[string]int{}
	short(alphabet, most, func(s string) {
		seen[s]++
		if seen[s] == 1 {
			all = append(all, s)
		}
	})
	return all
}

func checkMatch(t *testing.T, pattern, s string) {
	t.Helper()
	if got := glob.Match(pattern, s); got != matched(pattern, s) {
		t.Errorf("Match(%q, %q) answers %v", pattern, s, got)
	}
}

func TestP6_1MatchShort(t *testing.T) {
	all := texts("ab*", 6)
	for _, p := range all {
		for _, s := range all {
			checkMatch(t, p, s)
		}
	}
	subjects := texts("ab", 10)
	for _, p := range texts("ab*", 5) {
		for _, s := range subjects {
			checkMatch(t, p, s)
		}
	}
}

// A pattern with a filling in the place of each "*" is matched by just the texts that are made so.
func TestP6_1MatchMade(t *testing.T) {
	fillings := texts("ab*", 2)
	subjects := texts("ab*", 5)
	for _, p := range texts("ab*", 3) {
		made := map[string]int{"": 1}
		for _, c := range []byte(p) {
			next := map[string]int{}
			for start := range made {
				if c != '*' {
					next[start+string([]byte{c})] = 1
					continue
				}
				for _, f := range fillings {
					next[start+f] = 1
				}
			}
			made = next
		}
		for s := range made {
			if !glob.Match(p, s) {
				t.Errorf("Match(%q, %q) answers false", p, s)
			}
		}
		for _, s := range subjects {
			// All fillings that a text so short asks for were made.
			if made[s] == 0 && len(s) <= len(glob.Least(p))+2 && glob.Match(p, s) {
				t.Errorf("Match(%q, %q) answers true", p, s)
			}
		}
	}
}

func TestP6_1MatchEachByte(t *testing.T) {
	for c := range 256 {
		b := string([]byte{byte(c)})
		for d := range 256 {
			e := string([]byte{byte(d)})
			for _, x := range [][2]string{{b, e}, {"a" + b + "c", "a" + e + "c"}, {b + "*" + b, e + "x" + b}, {"*" + b, e + e}, {b + "*", e + b}, {"*" + b + "*", "xy" + e + "z"}} {
				checkMatch(t, x[0], x[1])
			}
		}
		for _, p := range []string{"*", "**", "a*", "*a", "a*a", "*a*"} {
			for _, s := range []string{b, b + b, "a" + b, b + "a", "a" + b + "a", b + "a" + b} {
				checkMatch(t, p, s)
			}
		}
	}
}

func TestP6_1MatchTable(t *testing.T) {
	long := strings.Repeat("ab", 50)
	for _, x := range []struct {
		pattern, s string
		want       bool
	}{
		{"", "", true},
		{"", "a", false},
		{"", "*", false},
		{"a", "", false},
		{"a*", "", false},
		{"*a", "", false},
		{"*", "", true},
		{"*", "a", true},
		{"*", "*", true},
		{"***", "", true},
		{"***", "abc", true},
		// without "*"
		{"py37h_0", "py37h_0", true},
		{"py37h_0", "py37h_1", false},
		{"py37h_0", "py37h_", false},
		{"py37h_", "py37h_0", false},
		{"py37h_0", "Py37h_0", false},
		{"A", "a", false},
		{"1.0", "1x0", false}, // bytes that say more elsewhere stand for themselves
		{"a?", "ab", false},
		{"a?", "a?", true},
		{"[ab]", "a", false},
		{"[ab]", "[ab]", true},
		{"a\\*", "a*", false},
		{"a\\*", "a\\b", true},
		{"^a$", "a", false},
		{"a+", "aa", false},
		{"a b", "a b", true},
		// at the front, at the end, in the midst
		{"py3*_0", "py37h_0", true},
		{"py3*_0", "py3_0", true},
		{"py3*_0", "py3_1", false},
		{"py3*_0", "py27_0", false},
		{"py3*_0", "py37h_0x", false},
		{"py3*_0", "xpy37h_0", false},
		{"py*", "py", true},
		{"py*", "py37", true},
		{"py*", "p", false},
		{"py*", "apy", false},
		{"*_0", "_0", true},
		{"*_0", "py_0", true},
		{"*_0", "py_01", false},
		{"*mkl*", "mkl", true},
		{"*mkl*", "py_mkl_0", true},
		{"*mkl*", "py_mk_l0", false},
		// many one behind the other
		{"a**b", "ab", true},
		{"a***b", "axyb", true},
		{"a***b", "axybc", false},
		{"**a**", "a", true},
		{"**a**", "b", false},
		// the first place isn't the one that matches
		{"a*b", "abb", true},
		{"a*b", "abcb", true},
		{"a*b", "abc", false},
		{"*ab", "aab", true},
		{"*ab", "abab", true},
		{"*aab", "aaaab", true},
		{"*aba", "abababa", true},
		{"a*bc", "abxbc", true},
		{"a*bc*d", "abbcbcxd", true},
		{"a*b*c", "axbxbc", true},
		{"a*b*c", "axcxb", false},
		{"*ab*ab", "ab", false},
		{"*ab*ab", "aab", false},
		{"*ab*ab", "abab", true},
		{"*aa*aa", "aaa", false},
		{"*aa*aa", "aaaa", true},
		{"a*a", "a", false},
		{"a*a", "aa", true},
		{"a*a*a", "aa", false},
		// a "*" in the text is a byte like others
		{"a", "*", false},
		{"a*", "*", false},
		{"a*", "a*", true},
		{"a*c", "a*c", true},
		{"a*c", "a**", false},
		{"abc", "a*c", false},
		{"a*b", "a*", false},
		{"*b", "**b", true},
		// bytes that are no part of words, no code points, many
		{"a*c", "a/ =<>|,\n\x00c", true},
		{"*", "\xff\xfe\x80", true},
		{"\xff*", "\xff\xc3", true},
		{"*\x80", "\xe2\x82\x80", true},
		{"\xc3*", "é", true},
		{"*\xa9", "é", true},
		{"é", "é", true},
		{"é", "\xc3", false},
		{"\xff", "\xfe", false},
		{"\xff", "\ufffd", false},
		{"a*\x00", "a\x00\x00", true},
		{"a*b", long, true},
		{"*ba*ab", long, true},
		{"a*ba", long, false},
		{long, long, true},
		{long + "*", long, true},
		{"*" + long, long, true},
		{long, long + "a", false},
		{long + "a", long, false},
		{strings.Repeat("a*", 41), strings.Repeat("a", 41), true},
		{strings.Repeat("a*", 41), strings.Repeat("a", 40), false},
	} {
		if got := glob.Match(x.pattern, x.s); got != x.want {
			t.Errorf("Match(%q, %q) answers %v", x.pattern, x.s, got)
		}
		checkMatch(t, x.pattern, x.s)
	}
}

// A way back for each "*" at once would not end here.
func TestP6_1MatchEnds(t *testing.T) {
	text := strings.Repeat("a", 10000)
	for _, x := range []struct {
		pattern string
		want    bool
	}{
		{strings.Repeat("*a", 40) + "*", true},
		{strings.Repeat("*a", 40) + "*b", false},
		{strings.Repeat("a*", 40) + "b*a", false},
		{strings.Repeat("*", 5000) + "b", false},
		{strings.Repeat("a*", 10000), true},
		{strings.Repeat("a*", 10001), false},
		{"*" + strings.Repeat("a", 5000) + "b", false},
	} {
		if got := glob.Match(x.pattern, text); got != x.want {
			t.Errorf("Match of a pattern of %d bytes answers %v", len(x.pattern), got)
		}
	}
	if !glob.Match("*b", strings.Repeat("b", 1<<20)) || glob.Match("*b", strings.Repeat("a", 1<<20)) {
		t.Error("a long text isn't matched")
	}
}

func TestP6_1PlainAndLeast(t *testing.T) {
	for _, x := range []struct {
		pattern string
		plain   bool
		least   string
	}{
		{"", true, ""},
		{"a", true, "a"},
		{"py37h_0", true, "py37h_0"},
		{"*", false, ""},
		{"**", false, ""},
		{strings.Repeat("*", 41), false, ""},
		{"a*", false, "a"},
		{"*a", false, "a"},
		{"a*b", false, "ab"},
		{"py3*_0", false, "py3_0"},
		{"*a**b***c*", false, "abc"},
		{"A+!*", false, "A+!"},
		{"a?b\\", true, "a?b\\"},
		{"\xff*\x00", false, "\xff\x00"},
		{"\xff\x80", true, "\xff\x80"},
		{"\xc3*\xa9", false, "é"},
		{"\uff0a", true, "\uff0a"}, // a "*" of full width
		{strings.Repeat("ab*", 100), false, strings.Repeat("ab", 100)},
	} {
		checkPlain(t, x.pattern, x.plain, x.least)
	}
	for _, p := range texts("a*\xff", 6) {
		checkPlain(t, p, strings.Count(p, "*") == 0, strings.Join(strings.Split(p, "*"), ""))
	}
	for c := range 256 {
		if c != '*' {
			b := string([]byte{byte(c)})
			checkPlain(t, b, true, b)
			checkPlain(t, "*"+b+"*"+b, false, b+b)
		}
	}
}

// checkPlain asks, too, what makes the least text: the pattern matches it, and none that is shorter.
func checkPlain(t *testing.T, pattern string, plain bool, least string) {
	t.Helper()
	if got := glob.Plain(pattern); got != plain {
		t.Errorf("Plain(%q) answers %v", pattern, got)
	}
	if got := glob.Least(pattern); got != least {
		t.Errorf("Least(%q) answers %q", pattern, got)
	}
	if !glob.Match(pattern, least) || least != "" && glob.Match(pattern, least[1:]) {
		t.Errorf("%q isn't the least text that %q matches", least, pattern)
	}
}
