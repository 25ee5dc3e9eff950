package json_test

import (
	lib "encoding/json"
	"math"
	"reflect"
	"slices"
	"strconv"
	"strings"
	"testing"
	"unicode/utf8"

	"haversack/api"
	"haversack/ints"
	"haversack/json"
	"haversack/quote"
)

func null() api.Node               { return api.Node{Kind: api.Null} }
func no() api.Node                 { return api.Node{Kind: api.False} }
func yes() api.Node                { return api.Node{Kind: api.True} }
func num(n int) api.Node           { return api.Node{Kind: api.Int, N: n} }
func str(s string) api.Node        { return api.Node{Kind: api.String, Text: s} }
func arr(k ...api.Node) api.Node   { return api.Node{Kind: api.Array, Kids: k} }
func member(k string) api.Node     { return obj([]string{k}, null()) }
func times(s string, n int) string { return strings.Repeat(s, n) }

func obj(keys []string, kids ...api.Node) api.Node {
	return api.Node{Kind: api.Object, Keys: keys, Kids: kids}
}

// equal says anew when two values are the same; an empty list and none are.
func equal(a, b api.Node) bool {
	if a.Kind != b.Kind || a.N != b.N || a.Text != b.Text || len(a.Keys) != len(b.Keys) || len(a.Kids) != len(b.Kids) {
		return false
	}
	for i := range a.Keys {
		if a.Keys[i] != b.Keys[i] {
			return false
		}
	}
	for i := range a.Kids {
		if !equal(a.Kids[i], b.Kids[i]) {
			return false
		}
	}
	return true
}

func cut(s string) string {
	if len(s) <= 120 {
		return strconv.Quote(s)
	}
	return strconv.Quote(s[:60]) + ".." + strconv.Quote(s[len(s)-60:])
}

// accept holds that a text is read as a value, and that this is Right (P4.2).
func accept(t *testing.T, s string, want api.Node) {
	t.Helper()
	n, err := json.Parse(s)
	if err != nil || !equal(n, want) {
		t.Errorf("Parse(%s) answers %v, %v, not %v", cut(s), n, err, want)
	}
	if !json.Right(n) {
		t.Errorf("Parse(%s) answers %v, which isn't Right", cut(s), n)
	}
}

// refuse holds that a text is answered by an error, and by nothing else.
func refuse(t *testing.T, s string, want error) {
	t.Helper()
	if n, err := json.Parse(s); err != want || !reflect.ValueOf(n).IsZero() {
		t.Errorf("Parse(%s) answers %v, %v, not %v", cut(s), n, err, want)
	}
}

// model reads a text anew, by calls in calls; an error is thrown where it shows.
type model struct {
	s      string
	values int
}

func modelled(s string) (n api.Node, err error) {
	if len(s) > 100000 {
		return n, api.ErrSize
	}
	defer func() {
		if thrown := recover(); thrown != nil {
			n, err = api.Node{}, thrown.(error)
		}
	}()
	m := &model{s: s}
	n = m.value(0)
	if m.next() != "" {
		panic(api.ErrSyntax)
	}
	return n, nil
}

// next is the byte that stands next; "" at the end.
func (m *model) next() string {
	m.s = strings.TrimLeft(m.s, "\x09\x0a\x0d\x20")
	return m.s[:min(1, len(m.s))]
}

func (m *model) must(b string) {
	if m.next() != b {
		panic(api.ErrSyntax)
	}
	m.s = m.s[1:]
}

func (m *model) text() string {
	m.next()
	text, size, err := quote.Take(m.s, 0)
	if err != nil {
		panic(err)
	}
	m.s = m.s[size:]
	return text
}

func (m *model) value(depth int) api.Node {
	first := m.next()
	if first == "" {
		panic(api.ErrSyntax)
	}
	if m.values++; m.values > 20000 {
		panic(api.ErrSize)
	}
	if (first == "[" || first == "{") && depth == 32 {
		panic(api.ErrDepth)
	}
	switch first {
	case "[":
		return m.list(depth, "]", arr())
	case "{":
		return m.list(depth, "}", obj(nil))
	case `"`:
		return str(m.text())
	}
	for word, n := range map[string]api.Node{"null": null(), "false": no(), "true": yes()} {
		if rest, ok := strings.CutPrefix(m.s, word); ok {
			m.s = rest
			return n
		}
	}
	n, size, err := ints.Take(m.s, 0)
	if err != nil {
		panic(err)
	}
	m.s = m.s[size:]
	return num(n)
}

func (m *model) list(depth int, closing string, n api.Node) api.Node {
	m.s = m.s[1:]
	for m.next() != closing {
		if len(n.Kids) > 0 {
			m.must(",")
		}
		if n.Kind == api.Object {
			key := m.text()
			if slices.Contains(n.Keys, key) {
				panic(api.ErrKey)
			}
			n.Keys = append(n.Keys, key)
			m.must(":")
		}
		n.Kids = append(n.Kids, m.value(depth+1))
	}
	m.s = m.s[1:]
	return n
}

// check holds Parse against the model, and the model's syntax against the library's.
func check(t *testing.T, s string) {
	t.Helper()
	n, err := json.Parse(s)
	want, werr := modelled(s)
	if err != werr || !equal(n, want) {
		t.Errorf("Parse(%s) answers %v, %v, not %v, %v", cut(s), n, err, want, werr)
	}
	if err == nil && !json.Right(n) {
		t.Errorf("Parse(%s) answers %v, which isn't Right", cut(s), n)
	}
	// The library takes strings that aren't code points' bytes, and halves of two surrogates.
	lenient := !utf8.ValidString(s) || strings.Contains(s, `\ud`)
	if valid := lib.Valid([]byte(s)); valid && err == api.ErrSyntax && !lenient || !valid && err == nil {
		t.Errorf("Parse(%s) answers %v, but the library says that it is %v", cut(s), err, valid)
	}
}

// leaves are texts of values in which no others stand.
var leaves = []struct {
	s string
	n api.Node
}{
	{"null", null()}, {"false", no()}, {"true", yes()},
	{"0", num(0)}, {"-0", num(0)}, {"1", num(1)}, {"-1", num(-1)}, {"10", num(10)}, {"1234567890", num(1234567890)},
	{"9223372036854775807", num(math.MaxInt)}, {"-9223372036854775808", num(math.MinInt)},
	{`""`, str("")}, {`"a"`, str("a")}, {`"null"`, str("null")}, {`"1"`, str("1")}, {`" "`, str(" ")}, {`"\""`, str(`"`)}, {`"\\"`, str(`\`)},
	{`"[1,{}]"`, str("[1,{}]")}, {`"]"`, str("]")}, {`"}"`, str("}")}, {`":"`, str(":")}, {`","`, str(",")},
	{`"a\u00e9\ud83d\ude00"`, str("aé\U0001f600")}, {"\"é\u2028\x7f\"", str("é\u2028\x7f")}, {`"\u0000\n"`, str("\x00\n")},
	{"[]", arr()}, {"{}", obj(nil)},
}

func TestP4_1EachKindAloneAndInside(t *testing.T) {
	for _, a := range leaves {
		accept(t, a.s, a.n)
		accept(t, "["+a.s+"]", arr(a.n))
		accept(t, `{"":`+a.s+"}", obj([]string{""}, a.n))
		accept(t, "[[["+a.s+"]]]", arr(arr(arr(a.n))))
		accept(t, `{"k":{"k":`+a.s+"}}", obj([]string{"k"}, obj([]string{"k"}, a.n)))
		accept(t, `[{"k":[`+a.s+"]}]", arr(obj([]string{"k"}, arr(a.n))))
		for _, b := range leaves {
			accept(t, "["+a.s+","+b.s+"]", arr(a.n, b.n))
			accept(t, "["+a.s+","+b.s+","+a.s+"]", arr(a.n, b.n, a.n))
			accept(t, "[["+a.s+"],"+b.s+"]", arr(arr(a.n), b.n))
			accept(t, `{"b":`+a.s+`,"a":`+b.s+"}", obj([]string{"b", "a"}, a.n, b.n))
			accept(t, `{"b":[`+a.s+`],"a":`+b.s+`,"c":[]}`, obj([]string{"b", "a", "c"}, arr(a.n), b.n, arr()))
		}
	}
	accept(t, `[1, {"a": null}]`, arr(num(1), member("a")))
	accept(t, `[[],[[]],{}]`, arr(arr(), arr(arr()), obj(nil)))
}

// pieces are such as blanks may stand between.
var pieces = []string{"[", "1", ",", "{", `"a"`, ":", "null", ",", `" "`, ":", "[", "]", "}", ",", "{", "}", ",", "true", ",", "-2", ",", `"x y"`, ",", "false", "]"}

func piecesValue() api.Node {
	return arr(num(1), obj([]string{"a", " "}, null(), arr()), obj(nil), yes(), num(-2), str("x y"), no())
}

func TestP4_1BlanksAtEachPlace(t *testing.T) {
	accept(t, strings.Join(pieces, ""), piecesValue())
	for _, blank := range []string{"\t", "\n", "\r", " ", "\r\n", "\t\n\r ", times(" ", 1000)} {
		accept(t, blank+strings.Join(pieces, blank)+blank, piecesValue())
		for i := range len(pieces) + 1 {
			accept(t, strings.Join(pieces[:i], "")+blank+strings.Join(pieces[i:], ""), piecesValue())
		}
		for _, a := range leaves {
			accept(t, blank+a.s, a.n)
			accept(t, a.s+blank, a.n)
		}
	}
}

func TestP4_1OtherBytesAtEachPlace(t *testing.T) {
	for i := range len(pieces) + 1 {
		front, behind := strings.Join(pieces[:i], ""), strings.Join(pieces[i:], "")
		for _, other := range []string{"\x00", "\x01", "\x08", "\x0b", "\x0c", "\x0e", "\x1f", "!", "x", ";", "/", "/**/", "//", "#", "\\", "'", "_", "+", "\x7f", "\x80", "\x85", "\xa0", "\xff", "\u0085", "\u00a0", "\u2028", "\u3000", "\ufeff"} {
			refuse(t, front+other+behind, api.ErrSyntax)
			refuse(t, front+" "+other+" "+behind, api.ErrSyntax)
		}
		for b := range 256 {
			check(t, front+string([]byte{byte(b)})+behind)
		}
	}
	for _, s := range []string{"n ull", "nul l", "t rue", "f alse", "1 2", "- 1", `"a" "b"`, "{\"a\" \"b\":1}", "\"a\nb\"", "1 .5"} {
		refuse(t, s, api.ErrSyntax)
		refuse(t, "["+s+"]", api.ErrSyntax)
	}
}

func TestP4_1WrongTexts(t *testing.T) {
	for _, s := range []string{
		"", " ", "\t\n\r ", times(" ", 1000),
		"[1,]", "[,1]", "[,]", "[1,,2]", "[1,2,]", "[1 2]", "[[][]]", "[1,", "[1, ", "[,", ",", ",1", "1,", "1,2",
		`{"a":1,}`, `{,"a":1}`, `{,}`, `{"a":1,,"b":2}`, `{"a":1 "b":2}`, `{"a":1"b":2}`, `{"a":1,`, `{"a":1, `,
		`{"a"}`, `{"a" 1}`, `{"a",1}`, `{"a"::1}`, `{:1}`, `{"a":}`, `{"a":,"b":1}`, `{"a":1:2}`, `{"a"`, `{"a" `, `{"a":`, `{"a": `, `{"a":1`, `{"a":1 `, `{"a","b":1}`, `["a":1]`, `[1:2]`, "1:2", ":",
		`{a:1}`, `{1:1}`, `{null:1}`, `{true:1}`, `{[]:1}`, `{{}:1}`, `{'a':1}`, `{"a":1,b:2}`, `{"a":1,2}`, `{1}`, `{[]}`, `{"a":1,[]}`,
		"[", "[[", "[[]", "[1", "[1 ", "{", "{ ", "{}}", "[]]", "]", "}", "[}", "{]", "[1}", `{"a":1]`, "[[1}]", `[{"a":1]}`, "][", "}{", "(1)", "<1>",
		"nul", "n", "nulll", "nullnull", "null null", "Null", "NULL", "nil", "none", "tru", "True", "truee", "fals", "False", "falsey", "undefined", "NaN", "Infinity", "-Infinity",
		"01", "-01", "00", "-", "--1", "+1", ".5", "-.5", "1.", "1.e1", "1e", "1e+", "1E-", "1x", "0x10", "1_000", "1,000", "-a", "e1",
		`"`, `"a`, `"a\"`, `'a'`, `a`, `"a"b`, `"a""b"`, `"\x"`, `"\ud83d"`, `"\u12"`, "\"\n\"", "\"\xff\"", "\"\xc0\x80\"", "\"\xed\xa0\x80\"", "\xff", "\xef\xbb\xbf1",
		"1 1", "[] []", "{} 1", "[]1", "[],", "{},", `"a":1`, "1]", "1}", "null]", "1\x00", "[1]\x00", "[1] x",
	} {
		refuse(t, s, api.ErrSyntax)
		refuse(t, "["+s+";]", api.ErrSyntax)
		check(t, s)
	}
	for _, s := range []string{"nul", "01", "1.", "1e+", `"\x"`, "tru", "-", "x", "", "[", "{", `{"a"}`, "[1,]"} {
		refuse(t, "[0,"+s+"]", api.ErrSyntax)
		refuse(t, "[0,"+s+",0]", api.ErrSyntax)
		refuse(t, `{"k":`+s+"}", api.ErrSyntax)
		refuse(t, `{"k":`+s+`,"l":0}`, api.ErrSyntax)
	}
}

func TestP4_1TextsThatEndTooEarly(t *testing.T) {
	whole := " [1 , {\"a\\n\" : null , \"b\":[ ] } ,true,\"\\ud83d\\ude00\" , -12 ,{ }, false] "
	end := strings.LastIndex(whole, "]")
	for i := range end {
		refuse(t, whole[:i], api.ErrSyntax)
	}
	for i := end + 1; i <= len(whole); i++ {
		if _, err := json.Parse(whole[:i]); err != nil {
			t.Errorf("Parse(%q) answers %v", whole[:i], err)
		}
	}
}

func TestP4_1NumbersThatAreNotWholeOrTooGreat(t *testing.T) {
	for _, s := range []string{
		"0.5", "1.5", "-1.5", "1.0", "0.0", "-0.0", "1e5", "1E5", "1e+5", "1e-5", "0e0", "-0e1", "1.5e3", "1.0E-10", "9007199254740993.0",
		"9223372036854775808", "-9223372036854775809", "18446744073709551616", "10000000000000000000", times("9", 1000), "-1" + times("0", 1000), "1e400",
	} {
		for _, text := range []string{s, " " + s, s + "\n", "[" + s + "]", "[0," + s + "]", "[" + s + ",0]", `{"k":` + s + "}", `{"k":0,"l":` + s + "}", "[[[" + s + "]]]"} {
			refuse(t, text, api.ErrNumber)
		}
		// What is wrong behind the number shows later.
		for _, behind := range []string{"x", " x", "]", ",", ".", "e", "-", `"`, "\x00", times("[", 40)} {
			refuse(t, s+behind, api.ErrNumber)
			refuse(t, "["+s+behind, api.ErrNumber)
		}
	}
	for _, s := range []string{"1.", "1.x", "1e", "1e+", "1.5.", "1.e5", "-", "01.5", "00.5", ".5", "+1.5"} {
		check(t, s)
		check(t, "["+s+"]")
	}
}

func TestP4_1StringsThatAreNotClosed(t *testing.T) {
	for _, s := range []string{`"`, `"a`, `"a\"`, `"\`, `"\\\`, `"\u00e`, `"\ud83d`, `"[],:{}`, `"é`} {
		for _, text := range []string{s, s + "]", "[" + s, "[" + s + "]", "[1," + s + ",2]", "{" + s, "{" + s + ":1}", `{"k":` + s, `{"k":` + s + "}", `{"k":1,` + s + "}", `{"a":1,` + s + ":1}"} {
			refuse(t, text, api.ErrSyntax)
		}
	}
}

func TestP4_1Depth(t *testing.T) {
	const most = 32 // Arrays and Objects in one another
	for _, c := range []struct{ opening, closing string }{{"[", "]"}, {`{"k":`, "}"}, {`[0,{"k":`, "}]"}, {`{"k":1,"l":[0,`, "]}"}} {
		each := strings.Count(c.closing, "]") + strings.Count(c.closing, "}")
		front, behind := times(c.opening, most/each), times(c.closing, most/each)
		for _, leaf := range []string{"null", "true", "false", "1", `"a"`} {
			s := front + leaf + behind
			n, err := json.Parse(s)
			if want, _ := modelled(s); err != nil || !equal(n, want) || !json.Right(n) || json.Depth(n) != most {
				t.Errorf("Parse(%s) answers depth %d, %v", cut(s), json.Depth(n), err)
			}
		}
		for _, inner := range []string{"[]", "{}", "[1]", `{"a":1}`, "[", "{", "[x", "{x", "[1.5", "[}", " [", "\n{"} {
			refuse(t, front+inner+behind, api.ErrDepth)
			refuse(t, front+inner, api.ErrDepth)
			refuse(t, front+inner+"x", api.ErrDepth)
		}
		for _, inner := range []string{"", "]x", ")", "x", "(", "}x"} {
			check(t, front+inner)
			refuse(t, front+inner, api.ErrSyntax)
		}
	}
	accept(t, times("[", most)+times("]", most), nested(most))
	refuse(t, times("[", most+1)+times("]", most+1), api.ErrDepth)
	refuse(t, times("[", 50000), api.ErrDepth)
	refuse(t, times(`{"":`, 20000), api.ErrDepth)
	refuse(t, times("[", most+1), api.ErrDepth)
	refuse(t, times("[", most), api.ErrSyntax)
	// It is how many stand in one another that counts, not how many there are.
	for _, s := range []string{"[]", "{}", "[[]]", `{"a":[]}`} {
		text := "[" + times(s+",", 500) + s + "]"
		if n, err := json.Parse(text); err != nil || len(n.Kids) != 501 || json.Depth(n) > 3 {
			t.Errorf("Parse(%s) answers %v", cut(text), err)
		}
	}
	deepest := times("[", most-1) + times("]", most-1)
	n, err := json.Parse("[" + deepest + "," + deepest + "]")
	if err != nil || json.Depth(n) != most-1 {
		t.Errorf("Arrays of depth %d beside one another answer %v", most, err)
	}
	refuse(t, "["+deepest+",["+deepest+"]]", api.ErrDepth)
}

// nested is as many Arrays in one another.
func nested(levels int, inner ...api.Node) api.Node {
	n := arr(inner...)
	for range levels - 1 {
		n = arr(n)
	}
	return n
}

// full are beginnings of texts in which 20000 values have begun, and what makes each of them a text that is right.
func full() map[string]string {
	return map[string]string{
		"[" + times("1,", 19998) + "1":                         "]",
		"[" + times("[],", 19998) + "{}":                       "]",
		"[[" + times("1,", 19997) + "1],":                      "",
		"[[" + times("1,", 19997) + "1]":                       "]",
		`{"k":[` + times("\"\",", 19997) + `""],"l":`:          "",
		`{"k":[` + times("\"\",", 19997) + `""]`:               "}",
		"[" + times("1,", 19998) + "[":                         "]]",
		"[" + times("1,", 19998) + "{":                         "}]",
		"[" + times("1,", 19998) + "[ ":                        "]]",
		"[" + times("1,", 19998) + "1 , ":                      "",
		"[" + times("null,", 19998-30) + times("[", 31):        times("]", 32),
		"[" + times("null,", 19998-31) + times("[", 31) + "0,": "",
	}
}

func TestP4_1Nodes(t *testing.T) {
	for front, behind := range full() {
		if behind != "" {
			n, err := json.Parse(front + behind)
			if err != nil || json.Count(n) != 20000 || !json.Right(n) {
				t.Errorf("Parse(%s) answers %d values, %v", cut(front+behind), json.Count(n), err)
			}
		}
		check(t, front+behind)
		check(t, front+",1"+behind)
		check(t, front+"1"+behind)
	}
	refuse(t, "["+times("1,", 19999)+"1]", api.ErrSize)
	refuse(t, "["+times("1,", 30000)+"1]", api.ErrSize)
	refuse(t, "["+times("[],", 19999)+"[]]", api.ErrSize)
	refuse(t, `{"k":[`+times("1,", 19997)+`1],"l":1}`, api.ErrSize)
	refuse(t, "["+times("[1],", 9999)+"[1]]", api.ErrSize)
	if n, err := json.Parse("[" + times("[1],", 9998) + "[1],2]"); err != nil || json.Count(n) != 20000 {
		t.Errorf("20000 values in values answer %v", err)
	}
}

func TestP4_1OneValueTooMany(t *testing.T) {
	// Whatever stands where the value too many should begin, it is told ahead of all that is wrong there.
	for _, front := range []string{
		"[" + times("1,", 19999), "[" + times("1,", 19999) + " \t\r\n", "[[" + times("1,", 19997) + "1],",
		`{"k":[` + times("1,", 19997) + `1],"l":`, `{"k":[` + times("1,", 19997) + `1],"l": `,
		times("[", 32) + times("1,", 19968),
	} {
		for _, b := range []string{"1", "null", "true", "[", "{", `"a"`, `"`, "x", "1.5", "99999999999999999999", "-", "]", "}", ",", ":", "\x00", "\x0b", "\xff", "\xe9"} {
			refuse(t, front+b, api.ErrSize)
			refuse(t, front+b+"]", api.ErrSize)
		}
		refuse(t, front, api.ErrSyntax)
		refuse(t, front+"\n ", api.ErrSyntax)
	}
	// What shows ahead of it is told.
	for front, err := range map[string]error{
		"[1.5," + times("1,", 19998): api.ErrNumber, "[x," + times("1,", 19998): api.ErrSyntax,
		"[" + times("1,", 19998) + "1.5,": api.ErrNumber, "[" + times("1,", 19998) + "x,": api.ErrSyntax,
		"[" + times("1,", 19998) + "1;": api.ErrSyntax, "[" + times("1,", 19998) + "1 ": api.ErrSyntax, "[" + times("1,", 19998) + "1}": api.ErrSyntax,
		`{"k":[` + times("1,", 19997) + `1],`: api.ErrSyntax, `{"k":[` + times("1,", 19997) + `1],"l"`: api.ErrSyntax, `{"k":[` + times("1,", 19997) + `1],"l" ;`: api.ErrSyntax,
		`{"k":[` + times("1,", 19997) + `1],"k" :`: api.ErrKey, `[{"a":0,"a":` + times("1,", 19997): api.ErrKey,
		times("[", 33) + times("1,", 19967): api.ErrDepth,
	} {
		refuse(t, front+"1]", err)
	}
}

func TestP4_1Bytes(t *testing.T) {
	const most = 100000
	accept(t, times(" ", most-1)+"1", num(1))
	accept(t, "1"+times("\n", most-1), num(1))
	accept(t, `"`+times("a", most-2)+`"`, str(times("a", most-2)))
	accept(t, `"`+times("é", most/2-1)+`"`, str(times("é", most/2-1)))
	accept(t, "["+times(" ", most-2)+"]", arr())
	refuse(t, times(" ", most), api.ErrSyntax)
	refuse(t, times("x", most), api.ErrSyntax)
	refuse(t, `"`+times("a", most-1), api.ErrSyntax)
	refuse(t, "1.5"+times(" ", most-3), api.ErrNumber)
	refuse(t, times("9", most), api.ErrNumber)
	refuse(t, times("[", most), api.ErrDepth)
	// One byte too many is told ahead of all that the text has.
	for _, s := range []string{"1" + times(" ", most), times(" ", most) + "1", `"` + times("a", most-1) + `"`, times(" ", most+1), times("x", most+1), "x" + times(" ", most), "1.5" + times(" ", most-2), times("[", most+1), `{"a":1,"a":2}` + times(" ", most), times("\xff", most+1), times("[1],", 100000)} {
		refuse(t, s, api.ErrSize)
	}
}

func TestP4_1Keys(t *testing.T) {
	for _, same := range [][]string{
		{`"a"`, `"a"`}, {`""`, `""`}, {`"a"`, `"\u0061"`}, {`"\u0061"`, `"a"`}, {`"\u0061"`, `"\u0061"`}, {`"/"`, `"\/"`}, {`"é"`, `"\u00e9"`}, {`"\u00E9"`, `"\u00e9"`},
		{"\"\U0001f600\"", `"\ud83d\ude00"`}, {`"\n"`, `"\u000a"`}, {`"\""`, `"\u0022"`}, {`"ab"`, `"a\u0062"`}, {"\"\x7f\"", `"\u007f"`}, {`"\u0000"`, `"\u0000"`},
	} {
		a, b := same[0], same[1]
		for _, s := range []string{
			`{A:1,B:2}`, `{A:1,B:1}`, `{A:1,"x":2,B:3}`, `{"x":1,A:2,B:3}`, `{A:1,B:2,"x":3}`, `{"x":0,A:1,"y":2,B:3}`, `[{A:1,B:2}]`, `{"o":{A:1,B:2}}`, `[{A:1},{A:1,B:2}]`,
			`{A:{A:1},B:2}`, `{A:[{B:1}],B:2}`, `{A:{},B:{}}`, `{ A : 1 , B : 2 }`, `{A:1,B:2,A:3}`, `{A:1,A:2,B:3}`,
			// What is wrong behind the key shows later.
			`{A:1,B :x}`, `{A:1,B:x}`, `{A:1,B :1.5}`, `{A:1,B:1.5}`, `{A:1,B :`, `{A:1,B:`, `{A:1,B ;`, `{A:1,B }`, `{A:1,B:2`, `{A:1,B:2,`, `{A:1,B:2;`,
		} {
			refuse(t, strings.NewReplacer("A", a, "B", b).Replace(s), api.ErrKey)
		}
		for _, s := range []string{`[{A:1},{B:2}]`, `{A:{B:2}}`, `{A:[{B:2}]}`, `{A:{B:{A:1}}}`, `{"x":{A:1},"y":{B:2}}`, `{"x":{A:1},B:2}`, `{A:B}`, `[A,B]`, `{A:1,"x":B}`, `[{A:1},{"x":{B:1}},{A:2}]`} {
			check(t, strings.NewReplacer("A", a, "B", b).Replace(s))
			if _, err := json.Parse(strings.NewReplacer("A", a, "B", b).Replace(s)); err != nil {
				t.Errorf("%s of the keys %s, %s answers %v", s, a, b, err)
			}
		}
	}
	keys := []string{"a", "A", "a ", " a", "aa", "", "á", "a\u0301", "\u0000", "a\x00", `"`, `\`, "0", "00", "null"}
	for i, a := range keys {
		for j, b := range keys {
			qa, _ := quote.Quote(a)
			qb, _ := quote.Quote(b)
			s := "{" + qa + ":1," + qb + ":2}"
			if i == j {
				refuse(t, s, api.ErrKey)
			} else {
				accept(t, s, obj([]string{a, b}, num(1), num(2)))
			}
		}
	}
}

func TestP4_1ManyKeys(t *testing.T) {
	var b strings.Builder
	var keys []string
	var kids []api.Node
	for i := range 8000 {
		keys, kids = append(keys, strconv.Itoa(i)), append(kids, num(i%10))
		b.WriteString(`"` + keys[i] + `":` + strconv.Itoa(i%10) + ",")
	}
	all := strings.TrimSuffix(b.String(), ",")
	accept(t, "{"+all+"}", obj(keys, kids...))
	for _, i := range []int{0, 1, 4000, 7998, 7999} {
		refuse(t, "{"+all+`,"`+keys[i]+`":1}`, api.ErrKey)
	}
}

func TestP4_1TheFirstErrorIsTold(t *testing.T) {
	wrong := map[string]error{
		"x": api.ErrSyntax, "01": api.ErrSyntax, `"\x"`: api.ErrSyntax, "[1,]": api.ErrSyntax, `{"a"}`: api.ErrSyntax,
		"1.5": api.ErrNumber, "9223372036854775808": api.ErrNumber, "[1e5]": api.ErrNumber,
		`{"a":1,"a":2}`: api.ErrKey, `[{"":[],"":[]}]`: api.ErrKey,
		times("[", 32) + times("]", 32): api.ErrDepth, times(`{"a":`, 32) + "0" + times("}", 32): api.ErrDepth,
	}
	for a, err := range wrong {
		refuse(t, "[0,"+a+"]", err)
		refuse(t, "["+a+",0]", err)
		for b := range wrong {
			refuse(t, "["+a+","+b+"]", err)
			refuse(t, "["+a+"] "+b, err)
			refuse(t, `{"k":`+a+`,"l":`+b+"}", err)
			refuse(t, `{"k":`+a+`,"k":`+b+"}", err)
			refuse(t, `{"k":[0,`+a+`,`+b, err)
		}
	}
	refuse(t, `{"k":0,"k":1.5}`, api.ErrKey)
	refuse(t, `{"k":0,"k":`+times("[", 40), api.ErrKey)
	refuse(t, `{"k":1.5,"k":0}`, api.ErrNumber)
	refuse(t, `{"k":`+times("[", 32)+`,"k":0}`, api.ErrDepth)
	refuse(t, times("[", 32)+"1.5"+"[", api.ErrNumber)
	refuse(t, times("[", 32)+"[1.5", api.ErrDepth)
	refuse(t, times("[", 32)+";[", api.ErrSyntax)
}

// short calls f with each text of up to most pieces of an alphabet.
func short(alphabet []string, most int, f func(string)) {
	var grow func(s string, left int)
	grow = func(s string, left int) {
		f(s)
		if left == 0 {
			return
		}
		for _, piece := range alphabet {
			grow(s+piece, left-1)
		}
	}
	grow("", most)
}

func TestP4_1EveryShortText(t *testing.T) {
	each := func(s string) { check(t, s) }
	short(strings.Split(`[ ] { } , : " a 1 - . e`, " "), 4, each)
	short([]string{"[", "]", ",", "1", " "}, 7, each)
	short([]string{"[", "]", "{", "}", ",", ":", `"a"`, `"b"`, "1"}, 5, each)
	short([]string{"null", "true", "false", "nul", "l", "-", "0", "1.5", ",", "\n", "\x00"}, 4, each)
	short([]string{`{"a":`, `"b":`, `{`, `}`, `[`, `]`, "1", ","}, 5, each)
}

func TestP4_1EveryByteAtEachPlace(t *testing.T) {
	for _, s := range []string{
		"null", "[true,false]", "-12", `"a\u00e9"`, `{"a":1,"b":[2,{}]}`, ` [ { "k" : "v" , "l" : [ ] } , 10 ] `, `{"\ud83d\ude00":-0,"é":"é"}`,
	} {
		for i := range len(s) + 1 {
			check(t, s[:i])
			check(t, s[i:])
			if i < len(s) {
				check(t, s[:i]+s[i+1:])
			}
			for b := range 256 {
				c := string([]byte{byte(b)})
				check(t, s[:i]+c+s[i:])
				if i < len(s) {
					check(t, s[:i]+c+s[i+1:])
				}
			}
		}
	}
}

func TestP4_1WhatParseAnswersIsTheCallersOwn(t *testing.T) {
	s := `[[1,2,3],[4,5,6],{"a":7,"b":8,"c":9},{"d":[],"e":{}}]`
	want, _ := modelled(s)
	n, err := json.Parse(s)
	if err != nil {
		t.Fatal(err)
	}
	for i := range n.Kids {
		kids := append(n.Kids[i].Kids, str("x"))
		keys := append(n.Kids[i].Keys, "x")
		kids[0], keys[0] = str("y"), "y"
	}
	again := n
	n.Kids = append(n.Kids, str("x"))
	for i, kid := range again.Kids {
		if rest := kid.Kids[1:]; !slices.EqualFunc(rest, want.Kids[i].Kids[1:], equal) {
			t.Errorf("kid %d holds %v, once others were changed", i, kid)
		}
	}
	accept(t, s, want)
}
