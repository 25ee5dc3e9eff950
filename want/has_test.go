package want_test

import (
	"math"
	"strings"
	"testing"

	"haversack/api"
	"haversack/want"
)

// has holds Has of a constraint and a version, and that it leaves them as they are.
func has(t *testing.T, w api.Want, v api.Version, expected bool) {
	t.Helper()
	wasW, wasV := copied(w), copied(v)
	if got := want.Has(w, v); got != expected {
		t.Errorf("Has(%v, %v) answers %v", w, v, got)
	}
	if !equal(w, wasW) || !equalVersions(v, wasV) {
		t.Errorf("Has changed %v or %v", wasW, wasV)
	}
}

func TestP8_1HasOfTexts(t *testing.T) {
	for _, x := range []struct{ s, have, lack string }{
		{"*", "0 1 dev 1!0 1+a 99.9", ""},
		{"==1.2", "1.2 1.2.0 01.2 1.2+0 0!1.2", "1.1 1.3 1.2.1 1.20 1.2a 1.2post 1.2+1 1!1.2 1 2"},
		{"1.2", "1.2 1.2.0", "1.1 1.3 1.2.1"},
		{"==1.2+a", "1.2+a 1.2.0+A", "1.2 1.2+b 1.2+a.1"},
		{"!=1.2", "1.1 1.3 1.2.1 1.20 1.2a 1.2+1 1!1.2 1 2", "1.2 1.2.0 1.2+0"},
		{">=1.2", "1.2 1.2.0 1.2.1 1.2post 1.2+1 1.10 2 1!0", "1.1 1.2a 1.2dev 1.2.dev 1.2+a 1.1.99 0 dev"},
		{"<=1.2", "1.2 1.2.0 1.1 1.2a 1.2.dev 1.2+a 0 dev", "1.2.1 1.2post 1.2+1 1.3 1.10 2 1!0"},
		{">1.2", "1.2.1 1.2post 1.2+1 1.10 2 1!0", "1.2 1.2.0 1.2+0 1.2a 1.1 0"},
		{"<1.2", "1.1 1.2a 1.2.dev 1.2+a 0 dev", "1.2 1.2.0 1.2.1 1.2post 1.2+1 1.3 2 1!0"},
		{"=1.2", "1.2 1.2.0 1.2.9 1.2a 1.2dev 1.2post 1.2+x 1.2.3+x", "1.1 1.20 1.3 1 2 12 1!1.2 1a.2"},
		{"1.2.*", "1.2 1.2.9 1.2a", "1.20 1.3 1"},
		{"1.2*", "1.2 1.2.9 1.2a", "1.20 1.3 1"},
		{"=1.0", "1 1.0 1.0.5 1.0a", "1.1 1.1.0 2"},
		{"=1a", "1a 1a0 1a1 1a.5", "1 1ab 1b 1.a"},
		{"=1!1", "1!1 1!1.5", "1 1.5 2!1"},
		{"~=1.2", "1.2 1.2.0 1.2+1 1.2post 1.3 1.10 1.99.9 1post.0", "1.1 1.2a 1.2.dev 1.2+a 2 2.0 1!1.2 1a.5"},
		{"~=1.2.3", "1.2.3 1.2.3.4 1.2.10 1.2.3post", "1.2.2 1.2 1.2.3a 1.3 1.3.0 2"},
		{"~=1.0", "1 1.0 1.5", "0.9 1a 2"},
		{"~=1.0.0", "1 1.0 1.0.0 1.0.7", "1.1 1.0a 1.0.0a"},
		{"~=1!2.3", "1!2.3 1!2.4", "2.3 2.4 1!2.2 1!3 2!2.3"},
		{"~=a.1", "a.1 a.2", "a.0 b.1 1"},
		// all terms of a row, and any row
		{">=1.2,<2", "1.2 1.5 1.99", "1.1 2 2.0 3"},
		{"<2,>=1.2", "1.2 1.5 1.99", "1.1 2 2.0 3"},
		{">=1.2,<2|3.*", "1.5 3.1 3", "2.0 1.1 4"},
		{"3.*|>=1.2,<2", "1.5 3.1 3", "2.0 1.1 4"},
		{"1|2|3", "1 2 3.0", "0 1.5 4"},
		{">1,<2,!=1.5", "1.4 1.6", "1 1.5 2"},
		{"*,>1", "2", "1"},
		{">1,*", "2", "1"},
		{"*|>1", "1 2", ""},
		{">1|*", "1 2", ""},
		{"<1,>2", "", "0 1 1.5 2 3"},
		{"<1,>2|*", "0 1 1.5 2 3", ""},
		{"==1,==1.0|==2", "1 2", "0 3"},
	} {
		w, err := want.Parse(x.s)
		if err != nil {
			t.Fatalf("Parse(%q) answers %v", x.s, err)
		}
		for _, s := range strings.Fields(x.have) {
			has(t, w, ver(s), true)
		}
		for _, s := range strings.Fields(x.lack) {
			has(t, w, ver(s), false)
		}
	}
}

// versions are some that texts have, and some of every kind that none has.
func versions() []api.Version {
	var list []api.Version
	for _, s := range strings.Fields("dev 0.dev a 0 0.0 0+1 0.1 post 1.dev 1a 1 1.0 1.0.0 1+a 1+0 1+1 1.0+2 1.0.1 1.1a 1.1 1.1.5 1.2 1.10 1post 1post.1 2a 2 2.0 2.1 2.1.1 10 1!0 1!1 1!1.2 1!1.2+3 2!1.2") {
		list = append(list, ver(s))
	}
	return append(list, oddVersions()...)
}

func oddVersions() []api.Version {
	one := []api.Item{{N: 1}}
	return []api.Version{
		{}, {Epoch: 1}, {Epoch: -1}, {Epoch: math.MinInt}, {Epoch: math.MaxInt}, {Local: [][]api.Item{one}},
		{Parts: [][]api.Item{{}}}, {Parts: [][]api.Item{nil, nil}}, {Parts: [][]api.Item{one, {}}}, {Parts: [][]api.Item{one}, Local: [][]api.Item{nil}},
		{Epoch: -1, Parts: [][]api.Item{one, one}}, {Epoch: 1e15, Parts: [][]api.Item{one, one}},
		{Parts: [][]api.Item{{{N: -1}}}}, {Parts: [][]api.Item{one, {{N: -1}}}}, {Parts: [][]api.Item{one, {{N: 1e15}}}}, {Parts: [][]api.Item{one, {{N: math.MaxInt}}}},
		{Parts: [][]api.Item{{{Word: "a"}}}}, {Parts: [][]api.Item{one, {{Word: "A"}}}}, {Parts: [][]api.Item{one, {{N: 1}, {N: 2}}}}, {Parts: [][]api.Item{one, {{}, {N: 1, Word: "a"}}}}, {Parts: [][]api.Item{one, {{}, {Word: "\xff"}}}},
		{Parts: [][]api.Item{one, one}, Local: [][]api.Item{{{Word: "a"}}}}, {Parts: [][]api.Item{one, one}, Local: [][]api.Item{one, {}}},
	}
}

// odd are Ops of which there is no term.
var odd = []string{"", "!", "~", "===", "=>", "=<", "<>", "~==", "**", ".*", "=*", " ", " ==", "== ", ">= ", ",", "|", "a", "1", "==1", "*1", "=1", "\x00", "=\x00", "\xff", "≥", "&"}

func TestP8_1HasOfEachOperator(t *testing.T) {
	list := versions()
	for _, op := range append(append([]string{"*"}, operators...), odd...) {
		for _, held := range list {
			one := api.Term{Op: op, Version: held}
			for _, v := range list {
				w := rows(row(one))
				if got := want.Has(w, v); got != modelHas(w, v) {
					t.Errorf("Has(%v, %v) answers %v", w, v, got)
				}
			}
		}
	}
}

func TestP8_1HasOfOddTerms(t *testing.T) {
	for _, v := range versions() {
		for _, op := range odd {
			has(t, rows(row(api.Term{Op: op, Version: v})), v, false)
			has(t, rows(row(api.Term{Op: op})), v, false)
			has(t, rows(row(all(), api.Term{Op: op, Version: v})), v, false)
			has(t, rows(row(api.Term{Op: op, Version: v}), row(all())), v, true)
		}
		// "*" with a version, which no text has
		has(t, rows(row(api.Term{Op: "*", Version: ver("7")})), v, true)
		// no terms, no rows
		has(t, api.Want{}, v, false)
		has(t, rows(), v, false)
		has(t, api.Want{Rows: [][]api.Term{}}, v, false)
		has(t, rows(nil), v, true)
		has(t, rows(row()), v, true)
		has(t, rows([]api.Term{}, row(term("<", "dev"))), v, true)
		has(t, rows(row(term("==", "1!7")), nil), v, true)
	}
	// "~=" of what has no Shorter, and with a local part
	has(t, rows(row(term("~=", "1"))), ver("1"), false)
	has(t, rows(row(term("~=", "1"))), ver("1.5"), false)
	has(t, rows(row(api.Term{Op: "~="})), ver("1"), false)
	has(t, rows(row(api.Term{Op: "~="})), api.Version{}, false)
	has(t, rows(row(term("~=", "1.2+3"))), ver("1.2+3"), true)
	has(t, rows(row(term("~=", "1.2+3"))), ver("1.3"), true)
	has(t, rows(row(term("~=", "1.2+3"))), ver("1.2"), false)
	has(t, rows(row(term("~=", "1.2+3"))), ver("2"), false)
	// "=" of what nothing begins with
	has(t, rows(row(term("=", "1+3"))), ver("1+3"), false)
	has(t, rows(row(api.Term{Op: "="})), api.Version{}, false)
	has(t, rows(row(api.Term{Op: "=="})), ver("0"), true)
}

// small are all constraints of up to two rows of up to two of some terms.
func small() []api.Want {
	var lists [][]api.Term
	short(2, row(all(), term("<", "1.5"), term(">=", "1"), term("==", "2"), term("~=", "1.1"), api.Term{Op: "?"}), func(list []api.Term) { lists = append(lists, list) })
	var every []api.Want
	short(2, lists, func(list [][]api.Term) { every = append(every, api.Want{Rows: list}) })
	return every
}

func TestP8_1HasSmall(t *testing.T) {
	for _, w := range small() {
		for _, s := range []string{"0", "1", "1.3", "1.5", "2"} {
			if v := ver(s); want.Has(w, v) != modelHas(w, v) {
				t.Errorf("Has(%v, %s) answers %v", w, s, !modelHas(w, v))
			}
		}
	}
	// The last row of many, and the last term.
	many := strings.Repeat("1|", 14)
	last, err := want.Parse(many + ">2,<3")
	if err != nil {
		t.Fatal(err)
	}
	has(t, last, ver("2.5"), true)
	has(t, last, ver("3"), false)
	has(t, last, ver("2"), false)
	var long []api.Term
	for range 5000 {
		long = append(long, term(">", "1"))
	}
	has(t, rows(long), ver("2"), true)
	has(t, rows(append(long, term("<", "2"))), ver("2"), false)
}

func anyOf(t *testing.T, w api.Want, expected bool) {
	t.Helper()
	was := copied(w)
	if got := want.Any(w); got != expected {
		t.Errorf("Any(%v) answers %v", w, got)
	}
	if !equal(w, was) {
		t.Errorf("Any changed %v", was)
	}
}

func TestP8_1Any(t *testing.T) {
	one := term(">=", "1")
	for _, x := range []struct {
		w    api.Want
		want bool
	}{
		{api.Want{}, false},
		{api.Want{Rows: [][]api.Term{}}, false},
		{rows(nil), false},
		{rows(row()), false},
		{rows([]api.Term{}, nil), false},
		{rows(row(all())), true},
		{rows(row(all(), all())), true},
		{rows(row(all(), all(), all())), true},
		{rows(row(all()), row(all())), true},
		{rows(row(one)), false},
		{rows(row(all(), one)), false},
		{rows(row(one, all())), false},
		{rows(row(all(), one, all())), false},
		{rows(row(one), row(all())), true},
		{rows(row(all()), row(one)), true},
		{rows(nil, row(all())), true},
		{rows(row(all()), nil), true},
		{rows(row(one, all()), row(all(), one)), false},
		{rows(row(one), nil), false},
		{rows(row(one), row(one), row(all(), all())), true},
		// what every version has, and isn't "*"
		{rows(row(term(">=", "dev"))), false},
		{rows(row(term("<", "1")), row(term(">=", "1"))), false},
		{rows(row(api.Term{})), false},
		{rows(row(api.Term{Op: "**"})), false},
		{rows(row(api.Term{Op: ""}, all())), false},
		{rows(row(api.Term{Op: ".*"}), row(api.Term{Op: " *"})), false},
	} {
		anyOf(t, x.w, x.want)
	}
	for _, w := range small() {
		expected := false
		for _, terms := range w.Rows {
			expected = expected || len(terms) > 0 && strings.Trim(modelText(rows(terms)), "*,") == ""
		}
		anyOf(t, w, expected)
	}
	for s, expected := range map[string]bool{"*": true, "*,*": true, "1|*": true, "*|1": true, "1,*": false, "1": false, "1.*": false, ">=0": false} {
		if w, err := want.Parse(s); err != nil || want.Any(w) != expected {
			t.Errorf("Any of %q answers %v (%v)", s, !expected, err)
		}
	}
}
