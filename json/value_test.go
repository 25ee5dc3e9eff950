package json_test

import (
	"math"
	"slices"
	"strconv"
	"testing"

	"haversack/api"
	"haversack/json"
)

// inside are values in which one stands: alone, in Arrays, in Objects, behind others.
func inside(n api.Node) []api.Node {
	return []api.Node{
		n, arr(n), arr(null(), n), arr(n, null()), obj([]string{"k"}, n), obj([]string{"k", "l"}, num(1), n), arr(arr(arr(n))),
		arr(obj([]string{"k"}, arr(str("a"), n))), obj([]string{"", "k"}, arr(), obj([]string{"k"}, n)),
	}
}

func isRight(t *testing.T, n api.Node, want bool) {
	t.Helper()
	if json.Right(n) != want {
		t.Errorf("Right(%v) answers %v", n, !want)
	}
}

func TestP4_1RightValues(t *testing.T) {
	for _, n := range []api.Node{
		null(), no(), yes(), num(0), num(-1), num(math.MaxInt), num(math.MinInt),
		str(""), str("a"), str("é\U0001f600"), str("\x00\n\"\\\x7f"), str("\ufffd\uffff"),
		arr(), arr(null()), arr(arr(), arr()), obj(nil), obj([]string{""}, null()), obj([]string{"a", "A", "é"}, num(1), num(1), obj(nil)),
		{Kind: api.Null, Keys: []string{}, Kids: []api.Node{}}, {Kind: api.Int, N: 3, Keys: []string{}, Kids: []api.Node{}}, {Kind: api.String, Kids: []api.Node{}},
		{Kind: api.Array, Keys: []string{}, Kids: []api.Node{}}, {Kind: api.Object, Keys: []string{}, Kids: []api.Node{}},
		obj([]string{"a", "b"}, obj([]string{"a", "b"}, null(), null()), obj([]string{"a"}, null())),
	} {
		for _, v := range inside(n) {
			isRight(t, v, true)
		}
	}
}

func TestP4_1ValuesThatRightRefuses(t *testing.T) {
	wrong := []api.Node{{}}
	for _, kind := range []int{math.MinInt, -7, -1, 0, 8, 9, 1<<32 + 1, math.MaxInt} {
		wrong = append(wrong, api.Node{Kind: kind})
	}
	for kind := api.Null; kind <= api.Object; kind++ {
		if kind != api.Int {
			wrong = append(wrong, api.Node{Kind: kind, N: 1}, api.Node{Kind: kind, N: -1})
		}
		if kind != api.String {
			wrong = append(wrong, api.Node{Kind: kind, Text: "a"}, api.Node{Kind: kind, Text: "\x00"})
		}
		if kind != api.Object {
			wrong = append(wrong, api.Node{Kind: kind, Keys: []string{""}}, api.Node{Kind: kind, Keys: []string{"a"}, Kids: []api.Node{null()}})
		}
		if kind != api.Array && kind != api.Object {
			wrong = append(wrong, api.Node{Kind: kind, Kids: []api.Node{null()}})
		}
	}
	wrong = append(wrong, api.Node{Kind: api.Object, Keys: []string{"a"}, Kids: []api.Node{null()}, Text: "a"}, api.Node{Kind: api.Array, Kids: []api.Node{null()}, N: 1})
	for _, broken := range []string{"\x80", "\xff", "\xc3", "a\xc3", "\xc0\x80", "\xed\xa0\x80", "\xf4\x90\x80\x80", "é\xe2\x82"} {
		wrong = append(wrong, str(broken), member(broken), obj([]string{"a", broken}, null(), null()))
	}
	wrong = append(wrong,
		obj([]string{"a"}), obj(nil, null()), obj([]string{"a", "b"}, null()), obj([]string{"a"}, null(), null()), obj([]string{"a", "b", "c"}, null(), null()),
		obj([]string{"a", "a"}, null(), null()), obj([]string{"", ""}, null(), null()), obj([]string{"a", "b", "a"}, null(), num(1), num(2)), obj([]string{"b", "a", "a"}, null(), null(), null()), obj([]string{"a", "a"}))
	for _, n := range wrong {
		for _, v := range inside(n) {
			isRight(t, v, false)
		}
	}
}

func TestP4_1RightAsksDepth(t *testing.T) {
	keys := func(levels int, inner api.Node) api.Node {
		for range levels {
			inner = obj([]string{"k"}, inner)
		}
		return inner
	}
	for _, leaf := range []api.Node{null(), no(), yes(), num(5), str("a")} {
		isRight(t, nested(32, leaf), true)
		isRight(t, nested(33, leaf), false)
		isRight(t, keys(32, leaf), true)
		isRight(t, keys(33, leaf), false)
		isRight(t, nested(16, keys(16, leaf)), true)
		isRight(t, nested(17, keys(16, leaf)), false)
		isRight(t, nested(32, leaf, leaf), true)
		isRight(t, nested(32, leaf, arr()), false)
	}
	isRight(t, nested(32), true)
	isRight(t, nested(33), false)
	isRight(t, keys(31, obj(nil)), true)
	isRight(t, keys(32, obj(nil)), false)
	isRight(t, keys(32, arr()), false)
	isRight(t, nested(32, obj(nil)), false)
	isRight(t, arr(nested(31), nested(31)), true)
	isRight(t, arr(nested(31), nested(32)), false)
	isRight(t, nested(1000), false)
}

func list(n int, kid api.Node) api.Node {
	return arr(slices.Repeat([]api.Node{kid}, n)...)
}

func TestP4_1RightAsksHowManyValues(t *testing.T) {
	isRight(t, list(19999, null()), true)
	isRight(t, list(20000, null()), false)
	isRight(t, list(30000, null()), false)
	isRight(t, list(199, list(99, num(1))), true)
	isRight(t, list(200, list(99, num(1))), false)
	isRight(t, arr(append(list(199, list(99, num(1))).Kids, list(98, num(1)))...), true)
	isRight(t, arr(append(list(199, list(99, num(1))).Kids, list(98, num(1)), null())...), false)
	var keys []string
	for i := range 20000 {
		keys = append(keys, strconv.Itoa(i))
	}
	isRight(t, obj(keys[:19999], list(19999, null()).Kids...), true)
	isRight(t, obj(keys, list(20000, null()).Kids...), false)
	// Two in each of two in each of two ..: too many to be gone through.
	n := arr()
	for range 31 {
		n = arr(n, n)
	}
	isRight(t, n, false)
}

func TestP4_1CountAndDepth(t *testing.T) {
	for _, c := range []struct {
		n            api.Node
		count, depth int
	}{
		{null(), 1, 0}, {num(7), 1, 0}, {str("[[1]]"), 1, 0}, {arr(), 1, 0}, {obj(nil), 1, 0}, {api.Node{}, 1, 0},
		{arr(null()), 2, 1}, {member("a"), 2, 1}, {arr(num(1), num(2), num(3)), 4, 1}, {obj([]string{"a", "b"}, null(), null()), 3, 1},
		{arr(arr()), 2, 1}, {arr(arr(), arr(), obj(nil)), 4, 1}, {arr(arr(arr())), 3, 2}, {arr(num(1), member("a")), 4, 2}, {arr(member("a"), num(1)), 4, 2},
		{arr(arr(null()), null(), arr(arr(null()), null())), 8, 3}, {obj([]string{"a", "b"}, arr(arr(null())), arr(null())), 6, 3}, {obj([]string{"a", "b"}, arr(null()), arr(arr(null()))), 6, 3},
		{nested(32, num(1)), 33, 32}, {nested(33), 33, 32}, {nested(40, num(1), num(2)), 42, 40}, {list(30000, arr(null())), 60001, 2}, {nested(1 << 16), 1 << 16, 1<<16 - 1},
	} {
		if count, depth := json.Count(c.n), json.Depth(c.n); count != c.count || depth != c.depth {
			t.Errorf("a value of %d values at depths to %d answers %d and %d", c.count, c.depth, count, depth)
		}
	}
}

func isSame(t *testing.T, a, b api.Node, want bool) {
	t.Helper()
	if json.Same(a, b) != want || json.Same(b, a) != want {
		t.Errorf("Same(%v, %v) answers %v, the other way round %v", a, b, json.Same(a, b), json.Same(b, a))
	}
}

func TestP4_1Same(t *testing.T) {
	all := []api.Node{
		{}, null(), no(), yes(), num(0), num(1), num(-1), num(1 << 32), num(math.MaxInt), num(math.MinInt), str(""), str("a"), str("b"), str("ab"), str("A"), str("\xff"), str("é"), str("e\u0301"),
		arr(), arr(null()), arr(null(), null()), arr(num(1)), arr(num(2)), arr(num(1), num(2)), arr(num(2), num(1)), arr(num(1), num(2), num(3)), arr(arr()), arr(obj(nil)), arr(arr(num(1))), arr(arr(num(1)), num(2)), arr(num(1), arr(num(2))),
		obj(nil), obj([]string{"a"}, null()), obj([]string{"b"}, null()), obj([]string{"a"}, num(1)), obj([]string{"a", "b"}, null(), null()), obj([]string{"b", "a"}, null(), null()), obj([]string{"a", "b"}, num(1), num(2)), obj([]string{"b", "a"}, num(2), num(1)), obj([]string{"a", "b"}, num(2), num(1)),
		obj([]string{"a"}), obj([]string{"a", "a"}, null()), obj(nil, null()), {Kind: 9}, {Kind: -1}, {Kind: api.Null, N: 1}, {Kind: api.Null, Text: "a"}, {Kind: api.Null, Keys: []string{"a"}}, {Kind: api.Null, Kids: []api.Node{null()}}, {Kind: api.Array, Keys: []string{"a"}, Kids: []api.Node{null()}},
	}
	for i, a := range all {
		for j, b := range all {
			for place, v := range inside(a) {
				isSame(t, v, inside(b)[place], i == j)
			}
		}
	}
	empty := api.Node{Kind: api.Array, Keys: []string{}, Kids: []api.Node{}}
	isSame(t, empty, arr(), true)
	isSame(t, arr(empty), arr(arr()), true)
	isSame(t, nested(1<<16, num(1)), nested(1<<16, num(1)), true)
	isSame(t, nested(1<<16, num(1)), nested(1<<16, num(2)), false)
	isSame(t, nested(100), nested(101), false)
}

func TestP4_1NoValueIsChanged(t *testing.T) {
	for _, s := range []string{"1", `"a"`, "[]", `[1,"b",{"a":[null],"c":true}]`, `{"b":1,"a":{"b":[]}}`} {
		n, _ := modelled(s)
		for _, v := range append(inside(n), api.Node{Kind: api.Int, N: 1, Text: "a", Keys: []string{"b", "a"}, Kids: []api.Node{n}}) {
			was := copied(v)
			json.Right(v)
			json.Count(v)
			json.Depth(v)
			json.Same(v, v)
			json.Same(v, n)
			if !equal(v, was) {
				t.Errorf("%v is %v behind the calls", was, v)
			}
		}
	}
}

func copied(n api.Node) api.Node {
	n.Keys, n.Kids = slices.Clone(n.Keys), slices.Clone(n.Kids)
	for i, kid := range n.Kids {
		n.Kids[i] = copied(kid)
	}
	return n
}

func TestP4_2WhatParseAnswersIsRight(t *testing.T) {
	// The kinds' pieces in all short rows: whatever of them is a text is read as a value that is Right.
	read := 0
	short([]string{"[", "]", "{", "}", ",", `"a":`, `"\u0062":`, "null", "-7", `"\ud83d\ude00"`}, 6, func(s string) {
		n, err := json.Parse(s)
		if err != nil {
			return
		}
		read++
		if !json.Right(n) || json.Count(n) > 20000 || json.Depth(n) > 32 {
			t.Errorf("Parse(%q) answers %v, which isn't Right", s, n)
		}
	})
	if read < 50 {
		t.Errorf("%d texts are read", read)
	}
	for front, behind := range full() {
		if n, err := json.Parse(front + behind); err == nil && !json.Right(n) {
			t.Errorf("Parse(%s) answers a value that isn't Right", cut(front+behind))
		}
	}
	for levels := range 40 {
		for _, inner := range []string{"", "1", "{}", `{"a":1}`} {
			if n, err := json.Parse(times("[", levels) + inner + times("]", levels)); err == nil && !json.Right(n) {
				t.Errorf("%d Arrays around %q are read as a value that isn't Right", levels, inner)
			}
		}
	}
}
