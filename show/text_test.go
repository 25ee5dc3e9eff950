package show_test

import (
	"bytes"
	lib "encoding/json"
	"math"
	"strconv"
	"strings"
	"testing"

	"haversack/api"
	"haversack/json"
	"haversack/quote"
	"haversack/show"
)

func null() api.Node             { return api.Node{Kind: api.Null} }
func no() api.Node               { return api.Node{Kind: api.False} }
func yes() api.Node              { return api.Node{Kind: api.True} }
func num(n int) api.Node         { return api.Node{Kind: api.Int, N: n} }
func str(s string) api.Node      { return api.Node{Kind: api.String, Text: s} }
func arr(k ...api.Node) api.Node { return api.Node{Kind: api.Array, Kids: k} }
func keys(k ...string) []string  { return k }

func obj(keys []string, kids ...api.Node) api.Node {
	return api.Node{Kind: api.Object, Keys: keys, Kids: kids}
}

// nested is a value in so many Arrays, and Objects by turns.
func nested(levels int, inner api.Node) api.Node {
	for i := range levels {
		if i%2 == 0 {
			inner = arr(inner)
		} else {
			inner = obj(keys("k"), inner)
		}
	}
	return inner
}

// many is an Array of one value so many times.
func many(n int, kid api.Node) api.Node {
	kids := make([]api.Node, n)
	for i := range kids {
		kids[i] = kid
	}
	return arr(kids...)
}

// frame is a place in which a value can stand, and the text there: "@" is the value's own.
type frame struct {
	around func(n api.Node) api.Node
	text   string
}

func frames() []frame {
	return []frame{
		{func(n api.Node) api.Node { return n }, "@"},
		{func(n api.Node) api.Node { return arr(n) }, "[@]"},
		{func(n api.Node) api.Node { return arr(n, null()) }, "[@,null]"},
		{func(n api.Node) api.Node { return arr(no(), n) }, "[false,@]"},
		{func(n api.Node) api.Node { return arr(num(1), n, str("a")) }, `[1,@,"a"]`},
		{func(n api.Node) api.Node { return arr(n, n) }, "[@,@]"},
		{func(n api.Node) api.Node { return obj(keys("k"), n) }, `{"k":@}`},
		{func(n api.Node) api.Node { return obj(keys("", "k"), n, arr()) }, `{"":@,"k":[]}`},
		{func(n api.Node) api.Node { return obj(keys("b", "a"), obj(nil), n) }, `{"b":{},"a":@}`},
		{func(n api.Node) api.Node { return obj(keys("1", "2", "3"), num(1), n, num(3)) }, `{"1":1,"2":@,"3":3}`},
		{func(n api.Node) api.Node { return arr(arr(arr(n))) }, "[[[@]]]"},
		{func(n api.Node) api.Node { return obj(keys("a"), obj(keys("b"), n)) }, `{"a":{"b":@}}`},
		{func(n api.Node) api.Node { return arr(obj(keys("é"), arr(n))) }, `[{"é":[@]}]`},
	}
}

// short is a value for a failure's words: the first of many.
func short(n api.Node) string {
	s := modelText(n)
	if len(s) > 120 {
		return s[:60] + ".." + s[len(s)-60:]
	}
	return s
}

// modelText says anew what a value's text is, also of one that isn't Right.
func modelText(n api.Node) string {
	rows := make([]string, 0, len(n.Kids))
	for _, kid := range n.Kids {
		rows = append(rows, modelText(kid))
	}
	switch n.Kind {
	case api.Null:
		return "null"
	case api.False:
		return "false"
	case api.True:
		return "true"
	case api.Int:
		return strconv.Itoa(n.N)
	case api.String:
		return modelQuote(n.Text)
	case api.Array:
		return "[" + strings.Join(rows, ",") + "]"
	case api.Object:
		for i := range min(len(n.Keys), len(rows)) {
			rows[i] = modelQuote(n.Keys[i]) + ":" + rows[i]
		}
		return "{" + strings.Join(rows, ",") + "}"
	}
	return "kind " + strconv.Itoa(n.Kind)
}

func modelQuote(text string) string {
	s, err := quote.Quote(text)
	if err != nil {
		return strconv.Quote(text)
	}
	return s
}

// has holds that a Right value has just this text, and that it is read as the value again (P5.2).
func has(t *testing.T, n api.Node, want string) {
	t.Helper()
	s, err := show.Text(n)
	if err != nil || s != want {
		t.Errorf("Text(%s) answers %.200s, %v, not %.200s", short(n), s, err, want)
		return
	}
	again(t, n)
}

// again holds P5.2 of a value.
func again(t *testing.T, n api.Node) {
	t.Helper()
	s, err := show.Text(n)
	if err != nil {
		t.Errorf("Text(%s) answers %v", short(n), err)
		return
	}
	back, err := json.Parse(s)
	if err != nil || !json.Same(back, n) {
		t.Errorf("the text of %s is read as %s, %v", short(n), short(back), err)
	}
}

func refused(t *testing.T, n api.Node) {
	t.Helper()
	if s, err := show.Text(n); s != "" || err != api.ErrType {
		t.Errorf("Text(%s) answers %.200s, %v, not ErrType", short(n), s, err)
	}
}

func TestP5_1TextOfTheChaptersExample(t *testing.T) {
	has(t, arr(num(1), obj(keys("a"), null())), "[1,{\"a\":null}]")
}

// leaves are values of each Kind, with their texts.
func leaves() map[string]api.Node {
	return map[string]api.Node{
		"null": null(), "false": no(), "true": yes(),
		"0": num(0), "1": num(1), "-1": num(-1), "10": num(10), "1000000": num(1000000),
		"9223372036854775807": num(math.MaxInt), "-9223372036854775808": num(math.MinInt),
		`""`: str(""), `"a"`: str("a"), `" a b "`: str(" a b "), `"null"`: str("null"), `"a,b:[1]{}"`: str("a,b:[1]{}"),
		`"é€😀"`: str("é€😀"), `"\"\\/"`: str("\"\\/"), `"\u0000\b\t\n\f\r\u001f` + "\x7f" + `"`: str("\x00\b\t\n\f\r\x1f\x7f"),
		"[]": arr(), "{}": obj(nil),
		"[null]": arr(null()), "[[]]": arr(arr()), "[{}]": arr(obj(nil)), "[1,2]": arr(num(1), num(2)), "[2,1,2]": arr(num(2), num(1), num(2)),
		`{"a":1}`: obj(keys("a"), num(1)), `{"":{}}`: obj(keys(""), obj(nil)), `{"b":1,"a":2}`: obj(keys("b", "a"), num(1), num(2)),
		`{"a":1,"c":[],"b":"a"}`: obj(keys("a", "c", "b"), num(1), arr(), str("a")), `{"\"\n\\é":null}`: obj(keys("\"\n\\é"), null()),
	}
}

func TestP5_1TextOfEachKindAloneAndInside(t *testing.T) {
	for s, n := range leaves() {
		for _, f := range frames() {
			has(t, f.around(n), strings.ReplaceAll(f.text, "@", s))
		}
	}
}

func TestP5_1TextOfListsOfNone(t *testing.T) {
	for _, none := range [][]api.Node{nil, {}} {
		for _, names := range [][]string{nil, {}} {
			has(t, api.Node{Kind: api.Array, Keys: names, Kids: none}, "[]")
			has(t, api.Node{Kind: api.Object, Keys: names, Kids: none}, "{}")
			has(t, api.Node{Kind: api.Null, Keys: names, Kids: none}, "null")
			has(t, api.Node{Kind: api.Int, N: -7, Keys: names, Kids: none}, "-7")
			has(t, api.Node{Kind: api.String, Text: "s", Keys: names, Kids: none}, `"s"`)
		}
	}
}

func TestP5_1TextOfEveryCodePointOfOneByteAndOfTheEdges(t *testing.T) {
	points := []rune{0x80, 0xff, 0x7ff, 0x800, 0x2028, 0x2029, 0xd7ff, 0xe000, 0xfeff, 0xfffd, 0xffff, 0x10000, 0x1f600, 0x10ffff}
	for r := range rune(0x80) {
		points = append(points, r)
	}
	for _, r := range points {
		text := string(r)
		s, err := quote.Quote(text)
		if err != nil {
			t.Fatal(err)
		}
		has(t, str(text), s)
		has(t, obj(keys(text), str("a"+text)), "{"+s+`:"a`+s[1:]+"}")
	}
}

// wrong are values that aren't Right, each for one thing that Right asks.
func wrong() []api.Node {
	w := []api.Node{{}, {Kind: -1}, {Kind: 8}, {Kind: math.MaxInt}, {Kind: math.MinInt}, {Kind: 1<<32 + 1}}
	for kind := api.Null; kind <= api.Object; kind++ {
		if kind != api.Int {
			w = append(w, api.Node{Kind: kind, N: 1})
		}
		if kind != api.String {
			w = append(w, api.Node{Kind: kind, Text: "a"})
		}
		if kind != api.Object {
			w = append(w, api.Node{Kind: kind, Keys: keys("a")})
		}
		if kind != api.Array {
			w = append(w, api.Node{Kind: kind, Kids: []api.Node{null()}})
		}
	}
	for _, broken := range []string{"\x80", "\xff", "a\xc3", "\xc0\x80", "\xed\xa0\x80", "\xf4\x90\x80\x80"} {
		w = append(w, str(broken), obj(keys(broken), null()))
	}
	return append(w,
		obj(keys("a")), obj(nil, null()), obj(keys("a", "b"), null()), obj(keys("a"), null(), null()),
		obj(keys("a", "a"), null(), null()), obj(keys("", "b", ""), num(1), num(2), num(3)))
}

func TestP5_1TextOfValuesThatAreNotRight(t *testing.T) {
	for _, n := range wrong() {
		for _, f := range frames() {
			refused(t, f.around(n))
		}
	}
}

func TestP5_1TextAsksDepthAndHowManyValues(t *testing.T) {
	for _, leaf := range []api.Node{null(), num(-5), str("a")} {
		again(t, nested(api.MaxDepth, leaf))
		refused(t, nested(api.MaxDepth+1, leaf))
		refused(t, arr(leaf, nested(api.MaxDepth, leaf)))
	}
	again(t, nested(api.MaxDepth-1, arr()))
	again(t, nested(api.MaxDepth-1, obj(nil)))
	refused(t, nested(api.MaxDepth, arr()))
	refused(t, nested(api.MaxDepth, obj(nil)))
	refused(t, nested(1<<16, null()))

	has(t, many(api.MaxNodes-1, num(7)), "["+strings.Repeat("7,", api.MaxNodes-2)+"7]")
	has(t, many(api.MaxNodes-1, null()), "["+strings.Repeat("null,", api.MaxNodes-2)+"null]")
	again(t, arr(many(api.MaxNodes-3, num(0)), obj(nil)))
	refused(t, many(api.MaxNodes, num(7)))
	refused(t, arr(many(api.MaxNodes-3, num(0)), obj(nil), null()))
	refused(t, many(1<<20, null()))
}

func TestP5_2TheLongestTexts(t *testing.T) {
	a := strings.Repeat("a", api.MaxBytes-2)
	has(t, str(a), `"`+a+`"`)
	bell := strings.Repeat("\a", (api.MaxBytes-2)/6)
	has(t, str(bell), `"`+strings.Repeat(`\u0007`, len(bell))+`"`)
	long := a[:api.MaxBytes-len(`{"":1}`)]
	has(t, obj(keys(long), num(1)), `{"`+long+`":1}`)
}

// grown are all values that have up to so many values in them, of a few leaves and keys.
func grown(most int) [][]api.Node {
	values := make([][]api.Node, most+1) // by how many values they have
	lists := make([][][]api.Node, most+1)
	lists[0] = [][]api.Node{nil}
	for size := 1; size <= most; size++ {
		if size == 1 {
			values[1] = []api.Node{null(), num(-12), str("\n,é")}
		}
		for _, kids := range lists[size-1] {
			values[size] = append(values[size], arr(kids...), obj(keys("b", "", "a\"", "B")[:len(kids)], kids...))
		}
		for last := 1; last <= size; last++ {
			for _, front := range lists[size-last] {
				for _, v := range values[last] {
					lists[size] = append(lists[size], append(front[:len(front):len(front)], v))
				}
			}
		}
	}
	return values
}

func TestP5_2EverySmallValueIsReadAgain(t *testing.T) {
	count := 0
	for _, row := range grown(5) {
		for _, n := range row {
			has(t, n, modelText(n))
			count++
		}
	}
	if count < 5000 {
		t.Errorf("only %d values", count)
	}
}

func TestP5_1TextHasNoBlanksAndIsTheLibrarysToo(t *testing.T) {
	for s, n := range leaves() {
		for _, f := range frames() {
			text, _ := show.Text(f.around(n))
			var compact bytes.Buffer
			if err := lib.Compact(&compact, []byte(text)); err != nil || compact.String() != text {
				t.Errorf("the text of %s, %s, is %s without blanks, %v", s, text, compact.String(), err)
			}
		}
	}
}

func TestP5_2TextOfWhatIsRead(t *testing.T) {
	for s, want := range map[string]string{
		" [ 1 , { \"a\" : null } ] ":                  "[1,{\"a\":null}]",
		"{\"b\":\t-0,\r\"a\":[\n]}":                   `{"b":0,"a":[]}`,
		`"\u0041\/\ud83d\ude00\u000A"`:                `"A/😀\n"`,
		`{"\u0061":{"\u0062":[true,false,"\u007f"]}}`: "{\"a\":{\"b\":[true,false,\"\x7f\"]}}",
	} {
		n, err := json.Parse(s)
		if err != nil {
			t.Fatal(err)
		}
		has(t, n, want)
		back, err := json.Parse(want)
		if err != nil || !json.Same(back, n) {
			t.Errorf("%s is read as %s, %v", want, short(back), err)
		}
	}
}
