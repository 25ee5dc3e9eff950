package show_test

import (
	"math"
	"reflect"
	"slices"
	"strconv"
	"strings"
	"testing"

	"haversack/api"
	"haversack/show"
)

// equal says anew when two values are the same; an empty list and none are.
func equal(a, b api.Node) bool {
	return a.Kind == b.Kind && a.N == b.N && a.Text == b.Text &&
		slices.Equal(a.Keys, b.Keys) && slices.EqualFunc(a.Kids, b.Kids, equal)
}

func copied(n api.Node) api.Node {
	n.Keys = append([]string{}, n.Keys...)
	n.Kids = append([]api.Node{}, n.Kids...)
	for i := range n.Kids {
		n.Kids[i] = copied(n.Kids[i])
	}
	return n
}

// spoil writes over all that can be reached of a value.
func spoil(n *api.Node) {
	n.Kind, n.N, n.Text = 99, 99, "spoiled"
	for i := range n.Keys {
		n.Keys[i] = "spoiled"
	}
	n.Keys = append(n.Keys, "more")
	for i := range n.Kids {
		spoil(&n.Kids[i])
	}
	n.Kids = append(n.Kids, api.Node{Kind: 99})
}

// notObjects are values of all other Kinds, and of none, that have a key and a kid.
func notObjects(key string, kid api.Node) []api.Node {
	var all []api.Node
	for _, kind := range []int{math.MinInt, -1, 0, api.Null, api.False, api.True, api.Int, api.String, api.Array, 8, 1<<32 + api.Object, math.MaxInt} {
		all = append(all, api.Node{Kind: kind, Keys: keys(key), Kids: []api.Node{kid}}, api.Node{Kind: kind, Text: key, N: 1})
	}
	return all
}

func gets(t *testing.T, n api.Node, key string, want api.Node) {
	t.Helper()
	if kid, ok := show.Get(n, key); !ok || !equal(kid, want) {
		t.Errorf("Get(%s, %q) answers %s, %v, not %s", short(n), key, short(kid), ok, short(want))
	}
}

func getsNone(t *testing.T, n api.Node, key string) {
	t.Helper()
	if kid, ok := show.Get(n, key); ok || !reflect.ValueOf(kid).IsZero() {
		t.Errorf("Get(%s, %q) answers %s, %v, not that there is none", short(n), key, short(kid), ok)
	}
}

func TestP5_1Get(t *testing.T) {
	n := obj(keys("b", "", "a", "é", "ab"), num(1), null(), arr(num(2), obj(keys("c"), no())), obj(keys("b"), str("x")), api.Node{Kind: 9, N: 3})
	gets(t, n, "b", num(1))
	gets(t, n, "", null())
	gets(t, n, "a", arr(num(2), obj(keys("c"), no())))
	gets(t, n, "é", obj(keys("b"), str("x")))
	gets(t, n, "ab", api.Node{Kind: 9, N: 3})
	for _, key := range []string{"c", "B", "bb", "aa", "e", "\xc3", "é ", " b", "b\x00", "null", strings.Repeat("a", 1000)} {
		getsNone(t, n, key)
	}
	getsNone(t, obj(nil), "")
	getsNone(t, obj(nil), "a")
}

func TestP5_1GetOfBytesThatAreNoCodePoints(t *testing.T) {
	n := obj(keys("\xff", "\ufffd", "\xc3"), num(1), num(2), num(3))
	gets(t, n, "\xff", num(1))
	gets(t, n, "\ufffd", num(2))
	gets(t, n, "\xc3", num(3))
	getsNone(t, n, "\xfe")
}

func TestP5_1GetOfAKeyThatStandsTwice(t *testing.T) {
	gets(t, obj(keys("a", "a"), num(1), num(2)), "a", num(1))
	gets(t, obj(keys("b", "a", "b", "a"), num(1), num(2), num(3), num(4)), "a", num(2))
	gets(t, obj(keys("a", "a"), num(1)), "a", num(1))
	getsNone(t, obj(keys("a", "b", "b"), num(1)), "b")
}

func TestP5_1GetOfAKeyWithoutAKid(t *testing.T) {
	getsNone(t, obj(keys("a")), "a")
	getsNone(t, obj(keys("a", "b"), num(1)), "b")
	gets(t, obj(keys("a", "b"), num(1)), "a", num(1))
	gets(t, obj(keys("a"), num(1), num(2)), "a", num(1))
	getsNone(t, obj(nil, num(1)), "")
}

func TestP5_1GetOfWhatIsNoObject(t *testing.T) {
	for _, n := range notObjects("a", num(1)) {
		getsNone(t, n, "a")
		getsNone(t, n, "")
	}
}

// rowsOf are all rows of up to so many of these keys.
func rowsOf(most int, alphabet ...string) [][]string {
	rows := [][]string{nil}
	for from := 0; len(rows[from]) < most; from++ {
		for _, key := range alphabet {
			rows = append(rows, append(slices.Clone(rows[from]), key))
		}
	}
	return rows
}

// numbered are so many Ints from 0 on.
func numbered(n int) []api.Node {
	kids := make([]api.Node, n)
	for i := range kids {
		kids[i] = num(i)
	}
	return kids
}

func TestP5_1GetOfEverySmallObject(t *testing.T) {
	alphabet := keys("", "a", "ab", "b")
	for _, row := range rowsOf(4, alphabet...) {
		for kids := range 6 {
			n := obj(row, numbered(kids)...)
			for _, key := range alphabet {
				place := 0
				for place < len(row) && row[place] != key {
					place++
				}
				if place < len(row) && place < kids {
					gets(t, n, key, num(place))
				} else {
					getsNone(t, n, key)
				}
			}
		}
	}
}

func sorts(t *testing.T, n, want api.Node) {
	t.Helper()
	if got := show.Sorted(n); !equal(got, want) {
		t.Errorf("Sorted(%+v) answers %+v, not %+v", n, got, want)
	}
}

func TestP5_1Sorted(t *testing.T) {
	sorts(t, obj(keys("a", "b", "c"), num(1), num(2), num(3)), obj(keys("a", "b", "c"), num(1), num(2), num(3)))
	sorts(t, obj(keys("c", "b", "a"), num(1), num(2), num(3)), obj(keys("a", "b", "c"), num(3), num(2), num(1)))
	sorts(t, obj(keys("b", "c", "a"), num(1), num(2), num(3)), obj(keys("a", "b", "c"), num(3), num(1), num(2)))
	sorts(t, obj(keys("ab", "b", "a", ""), num(1), num(2), num(3), num(4)), obj(keys("", "a", "ab", "b"), num(4), num(3), num(1), num(2)))
	sorts(t, obj(keys("a"), num(1)), obj(keys("a"), num(1)))
	sorts(t, obj(nil), obj(nil))
}

func TestP5_1SortedGoesByBytes(t *testing.T) {
	// Byte by byte: not by letters (Z is ahead of a), lengths, numbers, or units of UTF-16 (U+FFFF is ahead of U+10000).
	rise := keys("", "\x00", "\x00a", "\n", "10", "9", "A", "Z", "_", "a", "aa", "b", "z", "\x7f", "\x80", "é", "\uffff", "\U00010000", "\xff", "\xff\x00")
	for shift := range rise {
		row, kids := make([]string, len(rise)), make([]api.Node, len(rise))
		for i := range rise {
			from := (i*7 + shift) % len(rise)
			row[i], kids[i] = rise[from], num(from)
		}
		sorts(t, obj(row, kids...), obj(rise, numbered(len(rise))...))
	}
}

func TestP5_1SortedKeepsTheOrderOfKeysThatAreTheSame(t *testing.T) {
	sorts(t, obj(keys("a", "a"), num(1), num(2)), obj(keys("a", "a"), num(1), num(2)))
	sorts(t, obj(keys("a", "a"), num(2), num(1)), obj(keys("a", "a"), num(2), num(1)))
	sorts(t, obj(keys("b", "a", "b", "a"), num(1), num(2), num(3), num(4)), obj(keys("a", "a", "b", "b"), num(2), num(4), num(1), num(3)))
	for _, size := range []int{5, 11, 12, 13, 25, 50, 100, 1000, 5000} {
		var row, risen []string
		var kids, moved []api.Node
		for i := range size {
			row, kids = append(row, strconv.Itoa(9-i%3)), append(kids, num(i))
		}
		for _, last := range []int{2, 1, 0} {
			for i := last; i < size; i += 3 {
				risen, moved = append(risen, row[i]), append(moved, kids[i])
			}
		}
		sorts(t, obj(row, kids...), obj(risen, moved...))
	}
}

// modelSorted says anew what Sorted answers: of what is left, the first of the least keys is next.
func modelSorted(n api.Node) api.Node {
	n = copied(n)
	for i := range n.Kids {
		n.Kids[i] = modelSorted(n.Kids[i])
	}
	if n.Kind != api.Object || len(n.Keys) != len(n.Kids) {
		return n
	}
	for i := range n.Keys {
		least := i
		for j := i; j < len(n.Keys); j++ {
			if n.Keys[j] < n.Keys[least] {
				least = j
			}
		}
		key, kid := n.Keys[least], n.Kids[least]
		copy(n.Keys[i+1:least+1], n.Keys[i:least])
		copy(n.Kids[i+1:least+1], n.Kids[i:least])
		n.Keys[i], n.Kids[i] = key, kid
	}
	return n
}

func TestP5_1SortedOfEverySmallObject(t *testing.T) {
	for _, row := range rowsOf(5, "", "a", "b", "\xff") {
		for _, kids := range []int{0, len(row) - 1, len(row), len(row) + 1} {
			n := obj(row, numbered(max(0, kids))...)
			for _, f := range frames() {
				sorts(t, f.around(n), modelSorted(f.around(n)))
			}
		}
	}
}

func TestP5_1SortedWithin(t *testing.T) {
	fall := obj(keys("b", "a"), num(1), num(2))
	rise := obj(keys("a", "b"), num(2), num(1))
	sorts(t, arr(fall, num(1), arr(fall)), arr(rise, num(1), arr(rise)))
	sorts(t, obj(keys("x", "c"), fall, obj(keys("z", "y"), arr(fall), fall)), obj(keys("c", "x"), obj(keys("y", "z"), rise, arr(rise)), rise))
	sorts(t, nested(30, fall), nested(30, rise))
	for levels := range 8 {
		around := fall
		want := rise
		for range levels {
			around, want = obj(keys("b", "a"), arr(around), around), obj(keys("a", "b"), want, arr(want))
		}
		sorts(t, around, want)
	}
}

func TestP5_1SortedOfAnObjectWithoutAsManyKeysAsKids(t *testing.T) {
	for _, n := range []api.Node{
		obj(keys("b", "a")), obj(keys("b", "a"), num(1)), obj(keys("b", "a"), num(1), num(2), num(3)), obj(nil, num(2), num(1)),
		obj(keys("c", "b", "a"), num(1), num(2)), obj(keys("b"), num(2), num(1)),
	} {
		sorts(t, n, n)
		for _, f := range frames() {
			sorts(t, f.around(n), modelSorted(f.around(n)))
		}
	}
	// Those in it rise nonetheless.
	fall, rise := obj(keys("b", "a"), num(1), num(2)), obj(keys("a", "b"), num(2), num(1))
	sorts(t, obj(keys("b", "a"), fall), obj(keys("b", "a"), rise))
	sorts(t, obj(keys("b", "a"), fall, arr(fall), fall), obj(keys("b", "a"), rise, arr(rise), rise))
}

func TestP5_1SortedKeepsAllElse(t *testing.T) {
	for _, n := range leaves() {
		sorts(t, n, modelSorted(n))
	}
	for _, n := range wrong() {
		sorts(t, n, modelSorted(n))
	}
	for _, kind := range []int{-1, 0, api.Null, api.Int, api.String, api.Array, 8} {
		n := api.Node{Kind: kind, N: 4, Text: "t\xff", Keys: keys("b", "a"), Kids: numbered(2)}
		sorts(t, n, n)
	}
	sorts(t, api.Node{Kind: api.Object, N: 4, Text: "t", Keys: keys("b", "a"), Kids: numbered(2)}, api.Node{Kind: api.Object, N: 4, Text: "t", Keys: keys("a", "b"), Kids: []api.Node{num(1), num(0)}})
}

func lists(t *testing.T, n api.Node, key string, want ...string) {
	t.Helper()
	if l, err := show.List(n, key); err != nil || !slices.Equal(l, want) {
		t.Errorf("List(%s, %q) answers %q, %v, not %q", short(n), key, l, err, want)
	}
}

func listsNot(t *testing.T, n api.Node, key string) {
	t.Helper()
	if l, err := show.List(n, key); err != api.ErrType || l != nil {
		t.Errorf("List(%s, %q) answers %q, %v, not ErrType", short(n), key, l, err)
	}
}

func TestP5_1List(t *testing.T) {
	n := obj(keys("a", "b", "c", ""), arr(str("x"), str("y")), arr(), arr(str("")), arr(str("\xff"), str("x"), str("x"), str("\xff")))
	lists(t, n, "a", "x", "y")
	lists(t, n, "b")
	lists(t, n, "c", "")
	lists(t, n, "", "\xff", "x", "x", "\xff")
	lists(t, n, "d")
	lists(t, n, "A")
	lists(t, obj(nil), "a")
	lists(t, obj(keys("b", "a", "a"), num(1), arr(str("first")), arr(str("second"))), "a", "first")
	for _, none := range notObjects("a", arr(str("x"))) {
		lists(t, none, "a")
	}
	for _, none := range notObjects("a", num(1)) {
		lists(t, none, "a")
	}
}

// kinds are values of all Kinds.
func kinds() []api.Node {
	return []api.Node{{}, null(), no(), yes(), num(0), num(1), str(""), str("a"), arr(), arr(str("a")), obj(nil), obj(keys("a"), str("a")), {Kind: -1}, {Kind: 8, N: 1, Text: "a", Kids: []api.Node{str("a")}}}
}

func TestP5_1ListOfOtherKinds(t *testing.T) {
	for _, v := range kinds() {
		if v.Kind != api.Array {
			listsNot(t, obj(keys("a"), v), "a")
			listsNot(t, obj(keys("b", "a", "a"), arr(), v, arr()), "a")
		}
		if v.Kind != api.String {
			for _, list := range []api.Node{arr(v), arr(v, str("x")), arr(str("x"), v), arr(str("x"), v, str("y")), arr(str("x"), str("y"), str("z"), v)} {
				listsNot(t, obj(keys("a"), list), "a")
			}
		}
	}
	for _, kind := range []int{-1, 0, api.Null, api.String, api.Object, 8} {
		listsNot(t, obj(keys("a"), api.Node{Kind: kind, Kids: []api.Node{str("x")}}), "a")
	}
}

func numbers(t *testing.T, n api.Node, key string, most, want int, wantErr error) {
	t.Helper()
	if k, err := show.Number(n, key, most); err != wantErr || k != want {
		t.Errorf("Number(%s, %q, %d) answers %d, %v, not %d, %v", short(n), key, most, k, err, want, wantErr)
	}
}

func TestP5_1Number(t *testing.T) {
	for _, most := range []int{0, 1, 2, 10, api.MaxNumber, api.MaxTime, math.MaxInt - 1} {
		for _, n := range []int{0, 1, most - 1, most, most + 1, most + 2, -1, -2, -most - 1, math.MinInt, math.MaxInt} {
			if 0 <= n && n <= most {
				numbers(t, obj(keys("a"), num(n)), "a", most, n, nil)
			} else {
				numbers(t, obj(keys("a"), num(n)), "a", most, 0, api.ErrRange)
			}
		}
	}
	numbers(t, obj(keys("a"), num(math.MaxInt)), "a", math.MaxInt, math.MaxInt, nil)
	numbers(t, obj(keys("b", "a", "a"), num(1), num(2), num(3)), "a", 9, 2, nil)
	numbers(t, obj(keys("b", "a", "a"), num(1), num(10), num(3)), "a", 9, 0, api.ErrRange)
}

func TestP5_1NumberWithAMostBelowZero(t *testing.T) {
	for _, most := range []int{-1, -2, math.MinInt} {
		for _, n := range []int{-1, -2, 0, 1, math.MinInt, math.MaxInt} {
			numbers(t, obj(keys("a"), num(n)), "a", most, 0, api.ErrRange)
		}
		numbers(t, obj(keys("a"), null()), "a", most, 0, api.ErrType)
		numbers(t, obj(nil), "a", most, 0, api.ErrType)
	}
}

func TestP5_1NumberOfWhatIsNone(t *testing.T) {
	numbers(t, obj(nil), "a", 9, 0, api.ErrType)
	numbers(t, obj(keys("b"), num(1)), "a", 9, 0, api.ErrType)
	numbers(t, obj(keys("a")), "a", 9, 0, api.ErrType)
	numbers(t, obj(keys("b", "a"), num(1)), "a", 9, 0, api.ErrType)
	for _, n := range notObjects("a", num(1)) {
		numbers(t, n, "a", 9, 0, api.ErrType)
	}
	for _, v := range kinds() {
		if v.Kind != api.Int {
			v.N = 1
			numbers(t, obj(keys("a"), v), "a", 9, 0, api.ErrType)
			numbers(t, obj(keys("a", "a"), v, num(1)), "a", 9, 0, api.ErrType)
			v.N = -1
			numbers(t, obj(keys("a"), v), "a", 9, 0, api.ErrType)
		}
	}
}

func words(t *testing.T, n api.Node, key, want string, wantErr error) {
	t.Helper()
	if s, err := show.Word(n, key); err != wantErr || s != want {
		t.Errorf("Word(%s, %q) answers %q, %v, not %q, %v", short(n), key, s, err, want, wantErr)
	}
}

func TestP5_1Word(t *testing.T) {
	for _, text := range []string{"", "a", " ", "é\U0001f600", "\x00\n\"", "\xff", "null", strings.Repeat("ab", 1000)} {
		words(t, obj(keys("a"), str(text)), "a", text, nil)
		words(t, obj(keys("b", text+"c"), str("x"), str(text)), text+"c", text, nil)
	}
	words(t, obj(keys("b", "a", "a"), num(1), str("first"), str("second")), "a", "first", nil)
}

func TestP5_1WordOfWhatIsNone(t *testing.T) {
	words(t, obj(nil), "a", "", api.ErrType)
	words(t, obj(keys("b"), str("x")), "a", "", api.ErrType)
	words(t, obj(keys("a")), "a", "", api.ErrType)
	words(t, obj(keys("b", "a"), str("x")), "a", "", api.ErrType)
	for _, n := range notObjects("a", str("x")) {
		words(t, n, "a", "", api.ErrType)
	}
	for _, v := range kinds() {
		if v.Kind != api.String {
			v.Text = "x"
			words(t, obj(keys("a"), v), "a", "", api.ErrType)
			words(t, obj(keys("a", "a"), v, str("x")), "a", "", api.ErrType)
		}
	}
}

func makes(t *testing.T, row []string, kids []api.Node) {
	t.Helper()
	if n, err := show.Object(row, kids); err != nil || !equal(n, obj(row, kids...)) {
		t.Errorf("Object(%q, %d kids) answers %s, %v", row, len(kids), short(n), err)
	}
}

func makesNot(t *testing.T, row []string, kids []api.Node, want error) {
	t.Helper()
	if n, err := show.Object(row, kids); err != want || !reflect.ValueOf(n).IsZero() {
		t.Errorf("Object(%q, %d kids) answers %s, %v, not %v", row, len(kids), short(n), err, want)
	}
}

func TestP5_1Object(t *testing.T) {
	makes(t, nil, nil)
	makes(t, []string{}, []api.Node{})
	makes(t, nil, []api.Node{})
	makes(t, keys("a"), kinds()[:1])
	makes(t, keys("b", "a", "", "A", "é", "e\u0301", "\xff", "\ufffd", " ", "aa"), kinds()[:10])
	makes(t, keys("1", "2", "3"), []api.Node{obj(keys("a", "a"), null(), null()), obj(keys("a")), {Kind: 77}})
	for _, v := range kinds() {
		makes(t, keys("k"), []api.Node{v})
		makes(t, keys("k", "l"), []api.Node{v, v})
	}
}

func TestP5_1ObjectOfEverySmallRow(t *testing.T) {
	for _, row := range rowsOf(4, "", "a", "b", "c") {
		seen := map[string]int{}
		for _, key := range row {
			seen[key]++
		}
		for kids := range 6 {
			switch {
			case kids != len(row):
				makesNot(t, row, numbered(kids), api.ErrType)
			case len(seen) < len(row):
				makesNot(t, row, numbered(kids), api.ErrKey)
			default:
				makes(t, row, numbered(kids))
			}
		}
	}
}

func TestP5_1ObjectOfManyKeys(t *testing.T) {
	const size = 50000
	row, kids := make([]string, size), numbered(size)
	for i := range row {
		row[i] = strconv.Itoa(i)
	}
	makes(t, row, kids)
	for _, place := range []int{0, 1, size / 2, size - 2} {
		again := slices.Clone(row)
		again[place] = row[size-1]
		makesNot(t, again, kids, api.ErrKey)
	}
	makesNot(t, row, kids[1:], api.ErrType)
	makesNot(t, row[:size-1], kids, api.ErrType)
}

func TestP5_1ObjectHasAText(t *testing.T) {
	n, err := show.Object(keys("b", "a"), []api.Node{arr(num(1)), str("x")})
	if err != nil {
		t.Fatal(err)
	}
	has(t, n, `{"b":[1],"a":"x"}`)
	n, err = show.Object(nil, nil)
	if err != nil {
		t.Fatal(err)
	}
	has(t, n, "{}")
}

// sample has lists in lists in each way, and room behind each of them.
func sample() api.Node {
	inner := obj(append(make([]string, 0, 9), "d", "c"), append(make([]api.Node, 0, 9), num(1), arr(str("x"), str("y")))...)
	return obj(append(make([]string, 0, 9), "l", "b", "n", "w", "a"), append(make([]api.Node, 0, 9), arr(append(make([]api.Node, 0, 9), str("x"), str("y"))...), inner, num(7), str("w"), arr(inner, inner))...)
}

func TestP5_1NothingHandedInIsChanged(t *testing.T) {
	n := sample()
	before := copied(n)
	show.Text(n)
	show.Sorted(n)
	for _, key := range append(slices.Clone(n.Keys), "other") {
		show.Get(n, key)
		show.List(n, key)
		show.Number(n, key, 5)
		show.Word(n, key)
	}
	show.Object(n.Keys, n.Kids)
	if !reflect.DeepEqual(copied(n), before) {
		t.Errorf("%s has become %s", short(before), short(n))
	}
	for _, v := range wrong() {
		before := copied(v)
		show.Text(v)
		show.Sorted(v)
		show.Object(keys("b", "b"), []api.Node{v, v})
		if !reflect.DeepEqual(copied(v), before) {
			t.Errorf("%+v has become %+v", before, v)
		}
	}
}

// apart holds that an answer made from a value shows nothing of a change of the value, nor the value of a change of the answer.
func apart(t *testing.T, name string, answer func(n api.Node) api.Node) {
	t.Helper()
	n := sample()
	got := answer(n)
	before := copied(got)
	spoil(&n)
	if !equal(got, before) {
		t.Errorf("%s: a change of what was handed in shows in the answer", name)
	}
	n = sample()
	got = answer(n)
	spoil(&got)
	if !equal(n, sample()) {
		t.Errorf("%s: a change of the answer shows in what was handed in", name)
	}
}

func TestP5_1WhatIsAnsweredIsTheCallersOwn(t *testing.T) {
	for _, key := range sample().Keys {
		apart(t, "Get "+key, func(n api.Node) api.Node {
			kid, _ := show.Get(n, key)
			return kid
		})
	}
	apart(t, "Sorted", show.Sorted)
	apart(t, "Sorted of an Array", func(n api.Node) api.Node { return show.Sorted(arr(n, n)) })
	apart(t, "Sorted of an Object without enough keys", func(n api.Node) api.Node {
		n.Keys = n.Keys[1:]
		return show.Sorted(n)
	})
	apart(t, "Sorted of what is no Object", func(n api.Node) api.Node {
		n.Kind = api.Null
		return show.Sorted(n)
	})
	apart(t, "Object", func(n api.Node) api.Node {
		made, _ := show.Object(n.Keys, n.Kids)
		return made
	})
	apart(t, "List", func(n api.Node) api.Node {
		texts, _ := show.List(n, "l")
		return api.Node{Keys: texts}
	})
}

func TestP5_1NoTwoListsOfAnAnswerAreOne(t *testing.T) {
	shared := obj(keys("b", "a"), num(1), num(2))
	n := obj(keys("x", "y"), shared, shared)
	made, _ := show.Object(n.Keys, n.Kids)
	got, _ := show.Get(obj(keys("k"), n), "k")
	for _, answer := range []api.Node{made, got, show.Sorted(n)} {
		last := copied(answer.Kids[1])
		spoil(&answer.Kids[0])
		if !equal(answer.Kids[1], last) {
			t.Errorf("a change of one kid shows in the other: %s", short(answer))
		}
	}
}

func TestP5_1ValuesAboveAllLimits(t *testing.T) {
	deep := nested(1<<16-1, num(1))
	if got, ok := show.Get(obj(keys("a"), deep), "a"); !ok || !equal(got, deep) {
		t.Error("Get of a deep value")
	}
	if !equal(show.Sorted(deep), deep) {
		t.Error("Sorted of a deep value")
	}
	if made, err := show.Object(keys("a"), []api.Node{deep}); err != nil || !equal(made, obj(keys("a"), deep)) {
		t.Error("Object of a deep value")
	}
	wide := many(1<<18, str("x"))
	if l, err := show.List(obj(keys("a"), wide), "a"); err != nil || len(l) != 1<<18 {
		t.Error("List of a wide value")
	}
}
