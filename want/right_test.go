package want_test

import (
	"reflect"
	"slices"
	"strings"
	"testing"

	"haversack/api"
	"haversack/version"
	"haversack/want"
)

// stands says anew whether a version that is Right may stand behind an operator.
func stands(op string, v api.Version) bool {
	strict := op == "~=" || op == "="
	return !(strict && len(v.Local) > 0 || op == "~=" && len(v.Parts) < 2)
}

func checkRight(t *testing.T, w api.Want, expected bool) {
	t.Helper()
	was := copied(w)
	if got := want.Right(w); got != expected {
		t.Errorf("Right(%v) answers %v", w, got)
	}
	text := want.Text(w)
	if !equal(w, was) {
		t.Errorf("Right or Text changed %v", was)
	}
	// What is Right has a text of its own; what isn't has none, not even the one that it is written as.
	if again, err := want.Parse(text); expected && (text != modelText(w) || err != nil || !equal(again, w)) || !expected && err == nil && equal(again, w) {
		t.Errorf("the text of %v, %q, is read as %v, %v", w, text, again, err)
	}
}

func TestP8_1Right(t *testing.T) {
	one, zero := term("==", "1"), api.Version{}
	for _, x := range []struct {
		w    api.Want
		want bool
	}{
		{rows(row(one)), true},
		{rows(row(all())), true},
		{rows(row(all(), one, all()), row(one), row(all())), true},
		// a row at least, and a term at least in each
		{api.Want{}, false},
		{api.Want{Rows: [][]api.Term{}}, false},
		{rows(nil), false},
		{rows(row()), false},
		{rows([]api.Term{}), false},
		{rows(row(one), nil), false},
		{rows(nil, row(one)), false},
		{rows(row(one), []api.Term{}, row(one)), false},
		// "*" has no version, but maybe empty lists
		{rows(row(api.Term{Op: "*", Version: api.Version{Parts: [][]api.Item{}, Local: [][]api.Item{}}})), true},
		{rows(row(term("*", "1"))), false},
		{rows(row(all(), term("*", "0"))), false},
		{rows(row(api.Term{Op: "*", Version: api.Version{Epoch: 1}})), false},
		{rows(row(api.Term{Op: "*", Version: api.Version{Epoch: -1}})), false},
		{rows(row(api.Term{Op: "*", Version: api.Version{Parts: [][]api.Item{nil}}})), false},
		{rows(row(api.Term{Op: "*", Version: api.Version{Local: [][]api.Item{nil}}})), false},
		{rows(row(api.Term{Op: "*", Version: api.Version{Local: [][]api.Item{{{N: 1}}}}})), false},
		// each operator has one
		{rows(row(term("!=", "1"))), true},
		{rows(row(term(">=", "1"))), true},
		{rows(row(term("<=", "1"))), true},
		{rows(row(term(">", "1"))), true},
		{rows(row(term("<", "1"))), true},
		{rows(row(term("=", "1"))), true},
		{rows(row(term("~=", "1.2"))), true},
		{rows(row(api.Term{Op: "==", Version: zero})), false},
		{rows(row(api.Term{Op: "=", Version: zero})), false},
		{rows(row(api.Term{Op: "~=", Version: zero})), false},
		{rows(row(api.Term{Op: "<", Version: zero})), false},
		{rows(row(api.Term{})), false},
		// no local part behind "=" and "~="
		{rows(row(term("==", "1+a"), term("!=", "1+a"), term(">=", "1+a"), term("<=", "1+a"), term(">", "1+a"), term("<", "1+a"))), true},
		{rows(row(term("=", "1+a"))), false},
		{rows(row(term("=", "1.2+0"))), false},
		{rows(row(term("~=", "1.2+a"))), false},
		{rows(row(term("~=", "1.2.3+0"))), false},
		{rows(row(api.Term{Op: "=", Version: api.Version{Parts: ver("1").Parts, Local: [][]api.Item{}}})), true},
		// two components behind "~="
		{rows(row(term("~=", "1"))), false},
		{rows(row(term("~=", "a1b2"))), false},
		{rows(row(term("~=", "1!2"))), false},
		{rows(row(term("~=", "1!2.3"), term("~=", "1.2.3"))), true},
		// one term of many
		{rows(row(one, one), row(one, term("~=", "1"))), false},
		{rows(row(one, one), row(term("=", "1+a"), one)), false},
		{rows(row(term("?", "1"), one), row(one)), false},
	} {
		checkRight(t, x.w, x.want)
	}
}

func TestP8_1RightOfManyTerms(t *testing.T) {
	for _, one := range row(all(), term(">=", "1.2"), term("=", "3")) {
		for many := range 20 {
			list := slices.Repeat(row(one), many)
			checkRight(t, rows(list), 1 <= many && many <= 16)
			for at := 1; at < many; at++ {
				checkRight(t, rows(list[:at], list[at:]), many <= 16)
				checkRight(t, rows(list[:at], nil, list[at:]), false)
			}
			var lines [][]api.Term
			for range many {
				lines = append(lines, row(one))
			}
			checkRight(t, rows(lines...), 1 <= many && many <= 16)
		}
	}
	checkRight(t, rows(slices.Repeat(row(all()), 1<<16)), false)
	checkRight(t, rows(slices.Repeat([][]api.Term{nil}, 1<<16)...), false)
}

// Each Op with each version: a term is Right just if Term makes it, or it is that of "*".
func TestP8_1RightAndTermOfEach(t *testing.T) {
	for _, v := range versions() {
		for _, op := range operators {
			expected := version.Right(v) && stands(op, v)
			checkRight(t, rows(row(api.Term{Op: op, Version: v})), expected)
			checkRight(t, rows(row(all(), api.Term{Op: op, Version: v}), row(all())), expected)
			if expected {
				makes(t, op, v)
			} else {
				fails(t, op, v, api.ErrVersion)
			}
		}
		for _, op := range odd {
			checkRight(t, rows(row(api.Term{Op: op, Version: v})), false)
			fails(t, op, v, api.ErrSpec)
		}
		fails(t, "*", v, api.ErrSpec)
	}
}

// A version's text may be of any length here (layer 7's Right), though Parse takes no such one.
func TestP8_1RightAndTermOfLong(t *testing.T) {
	var long api.Version
	for i := range 30 {
		long.Parts = append(long.Parts, []api.Item{{N: i}, {Word: "a"}})
	}
	w := rows(row(api.Term{Op: "~=", Version: long}), row(all()))
	if !want.Right(w) || want.Text(w) != "~="+version.Text(long)+"|*" {
		t.Errorf("%v isn't Right, or its text is %q", w, want.Text(w))
	}
	makes(t, "~=", long)
	makes(t, ">", long)
	refuse(t, want.Text(w), api.ErrVersion)
}

// makes holds that Term makes a term, and that it is the caller's own.
func makes(t *testing.T, op string, v api.Version) {
	t.Helper()
	was := copied(v)
	got, err := want.Term(op, v)
	if err != nil || got.Op != op || !equalVersions(got.Version, v) {
		t.Errorf("Term(%q, %v) answers %v, %v", op, v, got, err)
	}
	if !equalVersions(v, was) {
		t.Errorf("Term changed %v", was)
	}
	apart(t, got, v)
}

func fails(t *testing.T, op string, v api.Version, expected error) {
	t.Helper()
	was := copied(v)
	if got, err := want.Term(op, v); err != expected || !reflect.ValueOf(got).IsZero() {
		t.Errorf("Term(%q, %v) answers %v, %v, not %v", op, v, got, err, expected)
	}
	if !equalVersions(v, was) {
		t.Errorf("Term changed %v", was)
	}
}

func TestP8_1Term(t *testing.T) {
	for op, texts := range map[string]string{
		"==": "0 1 1.2 a 1!2 1+a 1.2+a",
		"!=": "0 1 1.2 a 1!2 1+a 1.2+a",
		">=": "0 1 1.2 a 1!2 1+a 1.2+a",
		"<=": "0 1 1.2 a 1!2 1+a 1.2+a",
		">":  "0 1 1.2 a 1!2 1+a 1.2+a",
		"<":  "0 1 1.2 a 1!2 1+a 1.2+a",
		"=":  "0 1 1.2 a 1!2",
		"~=": "0.0 1.2 a.b 1!2.3 1.2.3.4",
	} {
		for _, s := range strings.Fields(texts) {
			makes(t, op, ver(s))
		}
		for _, v := range oddVersions() {
			fails(t, op, v, api.ErrVersion)
		}
	}
	for _, s := range strings.Fields("1+a 1.2+a 1!2+0 a+0.0") {
		fails(t, "=", ver(s), api.ErrVersion)
	}
	for _, s := range strings.Fields("0 1 a 1a2b3 1!2 1+a 1.2+a 1+2.3 1!2.3+0") {
		fails(t, "~=", ver(s), api.ErrVersion)
	}
	// the operator's error ahead of the version's
	for _, op := range append([]string{"*"}, odd...) {
		fails(t, op, ver("1.2"), api.ErrSpec)
		fails(t, op, api.Version{}, api.ErrSpec)
		fails(t, op, ver("1+a"), api.ErrSpec)
	}
	for c := range 256 {
		b := string([]byte{byte(c)})
		for _, op := range append([]string{""}, operators...) {
			for _, s := range []string{op + b, b + op} {
				if slices.Contains(operators, s) {
					makes(t, s, ver("1.2"))
				} else {
					fails(t, s, ver("1.2"), api.ErrSpec)
				}
			}
		}
	}
}

func TestP8_1TermAnswersTheCallersOwn(t *testing.T) {
	// Lists that are one in what is handed in are two in the answer.
	one := make([]api.Item, 1, 8)
	v := api.Version{Parts: [][]api.Item{one, one, one[:1:1]}, Local: [][]api.Item{one}}
	v.Parts = v.Parts[:2]
	got, err := want.Term("==", v)
	if err != nil {
		t.Fatalf("Term answers %v", err)
	}
	apart(t, got, v)
	spoil(v)
	one[0].N = 7
	if !equalVersions(got.Version, ver("0.0+0")) {
		t.Errorf("%v shows what was done to the version that was handed in", got)
	}
}
