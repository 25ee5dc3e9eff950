package quote_test

import (
	"encoding/json"
	"fmt"
	"math"
	"regexp"
	"strings"
	"testing"
	"unicode/utf8"

	"haversack/api"
	"haversack/quote"
)

// grammar says anew, in a pattern, what a string is; a byte that is no code point's passes here and is asked for apart.
var grammar = regexp.MustCompile(`^"(?:[^"\\\x00-\x1f]` +
	`|\\["\\/bfnrt]` +
	`|\\u(?:[0-9a-cA-CefEF][0-9a-fA-F]{3}|[dD][0-7][0-9a-fA-F]{2})` +
	`|\\u[dD][89abAB][0-9a-fA-F]{2}\\u[dD][c-fC-F][0-9a-fA-F]{2})*"`)

// taken is what Take should answer; the library's reader tells the text of what the pattern holds to be a string.
func taken(s string, at int) (text string, size int, err error) {
	if at < 0 || at > len(s) {
		return "", 0, api.ErrSyntax
	}
	m := grammar.FindString(s[at:])
	if m == "" || !utf8.ValidString(m) {
		return "", 0, api.ErrSyntax
	}
	if err := json.Unmarshal([]byte(m), &text); err != nil {
		panic(err)
	}
	return text, len(m), nil
}

// quoted is what Quote should answer.
func quoted(text string) (string, error) {
	if !utf8.ValidString(text) {
		return "", api.ErrSyntax
	}
	q := `"`
	for _, r := range text {
		switch {
		case r == '"' || r == '\\':
			q += `\` + string(r)
		case strings.ContainsRune("\b\t\n\f\r", r):
			q += `\` + string("btnfr"[strings.IndexRune("\b\t\n\f\r", r)])
		case r < 32:
			q += fmt.Sprintf(`\u%04x`, r)
		default:
			q += string(r)
		}
	}
	return q + `"`, nil
}

func checkTake(t *testing.T, s string, at int) {
	t.Helper()
	text, size, err := quote.Take(s, at)
	if wtext, wsize, werr := taken(s, at); text != wtext || size != wsize || err != werr {
		t.Errorf("Take(%q, %d) answers %q, %d, %v, not %q, %d, %v", s, at, text, size, err, wtext, wsize, werr)
	}
}

func checkParse(t *testing.T, s string) {
	t.Helper()
	text, err := quote.Parse(s)
	wtext, wsize, werr := taken(s, 0)
	if werr == nil && wsize != len(s) {
		wtext, werr = "", api.ErrSyntax
	}
	if text != wtext || err != werr {
		t.Errorf("Parse(%q) answers %q, %v, not %q, %v", s, text, err, wtext, werr)
	}
}

func checkQuote(t *testing.T, text string) {
	t.Helper()
	q, err := quote.Quote(text)
	wq, werr := quoted(text)
	if q != wq || err != werr {
		t.Errorf("Quote(%q) answers %q, %v, not %q, %v", text, q, err, wq, werr)
	}
	if safe, want := quote.Safe(text), werr == nil && wq == `"`+text+`"`; safe != want {
		t.Errorf("Safe(%q) answers %v, not %v", text, safe, want)
	}
}

func checkBack(t *testing.T, text string) {
	t.Helper()
	q, err := quote.Quote(text)
	if err != nil {
		t.Errorf("Quote(%q) answers %v", text, err)
		return
	}
	if back, err := quote.Parse(q); back != text || err != nil {
		t.Errorf("Parse of Quote(%q), %q, answers %q, %v", text, q, back, err)
	}
}

// short calls f with each text of up to most bytes of an alphabet.
func short(alphabet string, most int, f func(string)) {
	var grow func(s string)
	grow = func(s string) {
		f(s)
		if len(s) == most {
			return
		}
		for i := range len(alphabet) {
			grow(s + alphabet[i:i+1])
		}
	}
	grow("")
}

// points calls f with each code point.
func points(f func(r rune)) {
	for r := rune(0); r <= utf8.MaxRune; r++ {
		if utf8.ValidRune(r) {
			f(r)
		}
	}
}

// broken are bytes that are no code point's.
var broken = []string{
	"\x80", "\xbf", "\xc0", "\xc1", "\xf5", "\xff", "\xc3", "\xe2\x82", "\xf0\x9f\x98", // cut off, or never a beginning
	"\xc0\x80", "\xc1\xbf", "\xe0\x80\x80", "\xe0\x9f\xbf", "\xf0\x80\x80\x80", "\xf0\x8f\xbf\xbf", // could be shorter
	"\xed\xa0\x80", "\xed\xaf\xbf", "\xed\xb0\x80", "\xed\xbf\xbf", "\xed\xa0\xbd\xed\xb8\x80", // surrogates
	"\xf4\x90\x80\x80", "\xf8\x88\x80\x80\x80", // above the greatest
	"\xc3\xc3", "\xe2a\xac", "\xc3\"", "\xc3\\",
}

func TestP3_1TakeOfTexts(t *testing.T) {
	for _, c := range []struct {
		s    string
		at   int
		text string
		size int
	}{
		{`"a\u00e9"`, 0, "aé", 9},
		{`""`, 0, "", 2},
		{`"",`, 0, "", 2},
		{`"""`, 0, "", 2},
		{`"""`, 1, "", 2},
		{`["ab", "c"]`, 1, "ab", 4},
		{`["ab", "c"]`, 4, ", ", 4},
		{`["ab", "c"]`, 7, "c", 3},
		{"\"a\"\xff", 0, "a", 3},
		{"\xff\"a\"", 1, "a", 3},
		{`"a"\`, 0, "a", 3},
		{"\"a\"\x00", 0, "a", 3},
		{`"\""`, 0, `"`, 4},
		{`"\\"`, 0, `\`, 4},
		{`"\\" "`, 0, `\`, 4},
		{`"\\\""`, 0, `\"`, 6},
		{`"\/"`, 0, "/", 4},
		{`"/"`, 0, "/", 3},
		{`"\b\f\n\r\t"`, 0, "\x08\x0c\x0a\x0d\x09", 12},
		{"\" \"", 0, " ", 3},
		{"\"\x7f\"", 0, "\x7f", 3},
		{"\"\u0080\u009f\u2028\ufeff\ufffd\uffff\"", 0, "\u0080\u009f\u2028\ufeff\ufffd\uffff", 18},
		{"\"\U00010000\U0010ffff\"", 0, "\U00010000\U0010ffff", 10},
		{`"\u0000"`, 0, "\x00", 8},
		{`"\u001f\u0020\u007f"`, 0, "\x1f \x7f", 20},
		{`"\u0022\u005c"`, 0, `"\`, 14},
		{`"\uabcd\uABCD\uaBcD"`, 0, "\uabcd\uabcd\uabcd", 20},
		{`"\ufffe\uffff"`, 0, "\ufffe\uffff", 14},
		{`"\u00e90"`, 0, "é0", 9},
		{`"\ud7ff\ue000"`, 0, "\ud7ff\ue000", 14},
		{`"\ud800\udc00"`, 0, "\U00010000", 14},
		{`"\udbff\udfff"`, 0, "\U0010ffff", 14},
		{`"\uD83D\uDE00"`, 0, "\U0001f600", 14},
		{`"a\ud83d\ude00b"`, 0, "a\U0001f600b", 16},
		{`"\ud83d\ude00\ud83d\ude01"`, 0, "\U0001f600\U0001f601", 26},
		{`"\\ud83d"`, 0, `\ud83d`, 9},
	} {
		text, size, err := quote.Take(c.s, c.at)
		if text != c.text || size != c.size || err != nil {
			t.Errorf("Take(%q, %d) answers %q, %d, %v, not %q, %d", c.s, c.at, text, size, err, c.text, c.size)
		}
		checkTake(t, c.s, c.at)
		checkParse(t, c.s)
	}
}

// wrong are texts at whose beginning no string stands.
var wrong = []string{
	"", `"`, "a", "a\"b\"", ` "a"`, "'a'", "\x00", "\xff", `\"a\"`, "\xe2\x80\x9ca\xe2\x80\x9d",
	`"a`, `"\"`, `"\`, `"\\\"`, `"a\"b`, `"\n`,
	`"\a"`, `"\v"`, `"\0"`, `"\x41"`, `"\'"`, `"\ "`, `"\B"`, `"\F"`, `"\N"`, `"\R"`, `"\T"`, `"\U0041"`, "\"\\\n\"", "\"\\\x00\"", "\"\\\xc3\xa9\"", "\"\\\xff\"",
	`"\u`, `"\u"`, `"\u0"`, `"\u00"`, `"\u00e"`, `"\u00`, `"\u00e9`, `"\u00eg"`, `"\u-001"`, `"\u+001"`, `"\u 001"`, `"\u0x41"`, `"\u00:0"`, `"\u00/0"`, `"\u00@0"`, `"\u00G0"`, "\"\\u00`0\"", `"\u{41}"`, `"u0041`,
	`"\ud83d"`, `"\ud83d`, `"\ud83da"`, `"\ud83d\"`, `"\ud83d\`, `"\ud83d\n"`, `"\ud83d\\"`, `"\ud83dude00"`, `"\ud83d\u"`, `"\ud83d\u`, `"\ud83d\ude0"`, `"\ud83d\ude"`, `"\ud83d\ude0`, `"\ud83d\ude00`, `"\ud83d\Ude00"`, `"\ud83d \ude00"`, `"\ud83d\ude0g"`,
	`"\ud83d\ud83d"`, `"\ud83d\ud83d\ude00"`, `"\ud83d\u0041"`, `"\ud83d\u0000"`, `"\ud83d\ue000"`, `"\ud83d\ud7ff"`, "\"\\ud83d\xed\xb8\x80\"", "\"\\ud83d\U0001f600\"",
	`"\ud800"`, `"\udbff"`, `"\udc00"`, `"\udfff"`, `"\ude00"`, `"\ude00\ud83d"`, `"\ude00\ude00"`, `"\ude00\u0041"`, `"\ud83d\ude00\ude00"`,
	"\"\n\"", "\"\t\"", "\"\x00\"", "\"\x1f\"", "\"a\x1fb\"",
}

func TestP3_1WrongStrings(t *testing.T) {
	for _, s := range wrong {
		if text, size, err := quote.Take(s, 0); text != "" || size != 0 || err != api.ErrSyntax {
			t.Errorf("Take(%q, 0) answers %q, %d, %v", s, text, size, err)
		}
		if text, err := quote.Parse(s); text != "" || err != api.ErrSyntax {
			t.Errorf("Parse(%q) answers %q, %v", s, text, err)
		}
	}
}

func TestP3_1BytesThatAreNoCodePoints(t *testing.T) {
	for _, b := range broken {
		for _, s := range []string{`"` + b + `"`, `"a` + b + `"`, `"` + b + `b"`, `"\n` + b + `\n"`, `"` + b} {
			if text, size, err := quote.Take(s, 0); text != "" || size != 0 || err != api.ErrSyntax {
				t.Errorf("Take(%q, 0) answers %q, %d, %v", s, text, size, err)
			}
			if text, err := quote.Parse(s); text != "" || err != api.ErrSyntax {
				t.Errorf("Parse(%q) answers %q, %v", s, text, err)
			}
		}
		for _, text := range []string{b, "a" + b, b + "b", "\n" + b, b + "\"", "é" + b} {
			if q, err := quote.Quote(text); q != "" || err != api.ErrSyntax {
				t.Errorf("Quote(%q) answers %q, %v", text, q, err)
			}
			if quote.Safe(text) {
				t.Errorf("Safe(%q) answers true", text)
			}
		}
	}
}

func TestP3_1ParseOfMoreThanAString(t *testing.T) {
	for _, s := range []string{`""`, `"a"`, `"a\u00e9"`, `"\ud83d\ude00"`, `"\""`} {
		for _, behind := range []string{" ", "a", `"`, `""`, s, "\n", "\x00", "\xff", `\`, ","} {
			if text, err := quote.Parse(s + behind); text != "" || err != api.ErrSyntax {
				t.Errorf("Parse(%q) answers %q, %v", s+behind, text, err)
			}
			if _, size, err := quote.Take(s+behind, 0); size != len(s) || err != nil {
				t.Errorf("Take(%q, 0) answers %d, %v, not %d", s+behind, size, err, len(s))
			}
		}
	}
}

func TestP3_1PlacesOutside(t *testing.T) {
	for _, s := range []string{"", `"`, `""`, `"a"`, `a"b"`, `"a`} {
		for _, at := range []int{-1, -2, -len(s), -len(s) - 1, len(s), len(s) + 1, math.MinInt, math.MinInt + 1, math.MaxInt, math.MaxInt - 1} {
			if at == 0 && s != "" {
				continue
			}
			if text, size, err := quote.Take(s, at); text != "" || size != 0 || err != api.ErrSyntax {
				t.Errorf("Take(%q, %d) answers %q, %d, %v", s, at, text, size, err)
			}
		}
	}
}

func TestP3_1EveryShortText(t *testing.T) {
	each := func(s string) {
		for at := -1; at <= len(s)+1; at++ {
			checkTake(t, s, at)
		}
		checkParse(t, s)
		checkQuote(t, s)
	}
	short("\"\\un/a \x1f\x7f\xc3\xa9", 4, each)
	short("\"\\u0x", 6, each)
	short("\xf0\x9f\x98\x80\xed\xa0\"\\", 4, each)
}

func TestP3_1EveryByte(t *testing.T) {
	for b := range 256 {
		c := string([]byte{byte(b)})
		for _, s := range []string{c, `"` + c, `"` + c + `"`, `"a` + c + `b"`, `"\` + c, `"\` + c + `"`, `"\` + c + `0041"`, `"\\` + c + `"`, `"a"` + c,
			`"\u` + c + `041"`, `"\u0` + c + `41"`, `"\u00` + c + `1"`, `"\u004` + c + `"`,
			`"\ud83d` + c + `ude00"`, `"\ud83d\` + c + `de00"`, `"\ud83d\u` + c + `e00"`, `"\ud83d\ud` + c + `00"`, `"\ud` + c + `00\ude00"`, `"\ud83d\ude0` + c + `"`} {
			checkTake(t, s, 0)
			checkTake(t, s, 1)
			checkParse(t, s)
		}
		for _, text := range []string{c, "a" + c, c + "b", "é" + c, c + c} {
			checkQuote(t, text)
		}
	}
}

func TestP3_1EveryUnit(t *testing.T) {
	for n := range 0x10000 {
		for _, form := range []string{`"\u%04x"`, `"\u%04X"`, `"a\u%04xb"`, `"\u%04x\udc00"`, `"\ud800\u%04X"`} {
			checkParse(t, fmt.Sprintf(form, n))
		}
	}
}

func TestP3_1PairsOfSurrogates(t *testing.T) {
	edges := []int{0xd7ff, 0xd800, 0xd801, 0xdaaa, 0xdbfe, 0xdbff, 0xdc00, 0xdc01, 0xdeee, 0xdffe, 0xdfff, 0xe000}
	for _, high := range edges {
		for _, low := range edges {
			for _, end := range []string{`"`, ``, `\udc00"`, `\ud800"`, `\u0041"`, "a\""} {
				checkTake(t, fmt.Sprintf(`"\u%04x\u%04X`, high, low)+end, 0)
			}
		}
	}
	for r := rune(0x10000); r <= utf8.MaxRune; r += 7 {
		over := r - 0x10000
		s := fmt.Sprintf(`"\u%04x\u%04x"`, 0xd800+over>>10, 0xdc00+over&0x3ff)
		if text, err := quote.Parse(s); text != string(r) || err != nil {
			t.Errorf("Parse(%q) answers %q, %v, not %q", s, text, err, string(r))
		}
	}
}

func TestP3_1QuoteOfTexts(t *testing.T) {
	for _, c := range []struct {
		text, q string
		safe    bool
	}{
		{"", `""`, true},
		{"\n", `"\n"`, false},
		{"a", `"a"`, true},
		{"aé", `"aé"`, true},
		{"\"", `"\""`, false},
		{"\\", `"\\"`, false},
		{`\n`, `"\\n"`, false},
		{`\u0041`, `"\\u0041"`, false},
		{"/", `"/"`, true},
		{"'", `"'"`, true},
		{"<>&", `"<>&"`, true},
		{"\x08\x09\x0a\x0c\x0d", `"\b\t\n\f\r"`, false},
		{"\x00\x01\x07\x0b\x0e\x0f\x10\x1a\x1f", `"\u0000\u0001\u0007\u000b\u000e\u000f\u0010\u001a\u001f"`, false},
		{" ", `" "`, true},
		{"\x1f", `"\u001f"`, false},
		{"\x7f", "\"\x7f\"", true},
		{"\u0080\u2028\u2029\ufeff\ufffd\uffff", "\"\u0080\u2028\u2029\ufeff\ufffd\uffff\"", true},
		{"\U0001f600\U0010ffff", "\"\U0001f600\U0010ffff\"", true},
		{"a\nb\"c\\d\x00e", `"a\nb\"c\\d\u0000e"`, false},
		{"\n\n", `"\n\n"`, false},
		{"é\né", `"é\né"`, false},
		{"a\"", `"a\""`, false},
		{"\"a", `"\"a"`, false},
	} {
		if q, err := quote.Quote(c.text); q != c.q || err != nil {
			t.Errorf("Quote(%q) answers %q, %v, not %q", c.text, q, err, c.q)
		}
		if safe := quote.Safe(c.text); safe != c.safe {
			t.Errorf("Safe(%q) answers %v", c.text, safe)
		}
		checkQuote(t, c.text)
	}
}

func TestP3_1EveryCodePoint(t *testing.T) {
	points(func(r rune) {
		text := string(r)
		checkQuote(t, text)
		s := `"` + text + `"`
		got, size, err := quote.Take(s, 0)
		if bare := r >= 32 && r != '"' && r != '\\'; bare && (got != text || size != len(s) || err != nil) {
			t.Errorf("Take(%q, 0) answers %q, %d, %v", s, got, size, err)
		} else if !bare && r != '"' && (got != "" || size != 0 || err != api.ErrSyntax) {
			t.Errorf("Take(%q, 0) answers %q, %d, %v", s, got, size, err)
		}
	})
}

func TestP3_1LongTexts(t *testing.T) {
	for _, part := range []string{"a", "\n", "\x00", "é\"", "\U0001f600\\"} {
		text := strings.Repeat(part, 1000)
		checkQuote(t, text)
		q, _ := quoted(text)
		checkParse(t, q)
		checkParse(t, q[:len(q)-1])
		checkTake(t, q+q, len(q))
	}
}

func TestP3_2EveryCodePoint(t *testing.T) {
	var all strings.Builder
	points(func(r rune) {
		checkBack(t, string(r))
		all.WriteRune(r)
	})
	text := all.String()
	q, err := quote.Quote(text)
	if err != nil {
		t.Fatalf("Quote of all code points answers %v", err)
	}
	if back, err := quote.Parse(q); back != text || err != nil {
		t.Errorf("Parse of Quote of all code points isn't them: %v", err)
	}
}

func TestP3_2EveryShortText(t *testing.T) {
	short("\"\\u0/n\n\x00\x7f\xc3\xa9", 5, func(text string) {
		if utf8.ValidString(text) {
			checkBack(t, text)
		}
	})
}

func TestP3_2StringsInStrings(t *testing.T) {
	text := "a\n\"é\\u0041\U0001f600"
	list := []string{text}
	for range 8 {
		q, err := quote.Quote(text)
		if err != nil {
			t.Fatalf("Quote(%q) answers %v", text, err)
		}
		list = append(list, q)
		text = q
	}
	for i := len(list) - 1; i > 0; i-- {
		if back, err := quote.Parse(list[i]); back != list[i-1] || err != nil {
			t.Errorf("Parse(%q) answers %q, %v, not %q", list[i], back, err, list[i-1])
		}
	}
}
