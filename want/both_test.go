package want_test

import (
	"testing"

	"haversack/api"
	"haversack/want"
)

// both holds Both of two constraints, that it leaves them as they are, and that the answer is the caller's own.
func both(t *testing.T, a, b, expected api.Want) {
	t.Helper()
	wasA, wasB := copied(a), copied(b)
	got := want.Both(a, b)
	if !equal(got, expected) {
		t.Errorf("Both(%v, %v) answers %v", a, b, got)
	}
	if !equal(a, wasA) || !equal(b, wasB) {
		t.Errorf("Both changed %v or %v", wasA, wasB)
	}
	apart(t, got, a, b)
}

func TestP8_1Both(t *testing.T) {
	one, two, three, four := term(">=", "1"), term("<", "2.0+a"), term("!=", "1!3"), term("~=", "4.a")
	for _, x := range []struct{ a, b, want api.Want }{
		// no rows
		{api.Want{}, api.Want{}, api.Want{}},
		{rows(), rows(row(one)), api.Want{}},
		{rows(row(one)), rows(), api.Want{}},
		{rows(row(one), row(two)), api.Want{Rows: [][]api.Term{}}, api.Want{}},
		// one row
		{rows(row(one)), rows(row(two)), rows(row(one, two))},
		{rows(row(two)), rows(row(one)), rows(row(two, one))},
		{rows(row(one)), rows(row(one)), rows(row(one, one))},
		{rows(row(one, two)), rows(row(three, four)), rows(row(one, two, three, four))},
		{rows(row(all())), rows(row(one)), rows(row(all(), one))},
		{rows(row(one)), rows(row(all())), rows(row(one, all()))},
		// several rows
		{rows(row(one), row(two)), rows(row(three)), rows(row(one, three), row(two, three))},
		{rows(row(one)), rows(row(two), row(three)), rows(row(one, two), row(one, three))},
		{rows(row(one), row(two)), rows(row(three), row(four)), rows(row(one, three), row(one, four), row(two, three), row(two, four))},
		{rows(row(one, two), row(three)), rows(row(four), row(all(), one), row(two)), rows(row(one, two, four), row(one, two, all(), one), row(one, two, two), row(three, four), row(three, all(), one), row(three, two))},
		{rows(row(one), row(one)), rows(row(two), row(two)), rows(row(one, two), row(one, two), row(one, two), row(one, two))},
		// rows without terms
		{rows(nil), rows(nil), rows(nil)},
		{rows(nil), rows(row(one)), rows(row(one))},
		{rows(row(one)), rows(nil), rows(row(one))},
		{rows(nil, row(one)), rows(row(two), row()), rows(row(two), nil, row(one, two), row(one))},
		// what no text has
		{rows(row(api.Term{Op: "?"})), rows(row(term("*", "1"), api.Term{})), rows(row(api.Term{Op: "?"}, term("*", "1"), api.Term{}))},
	} {
		both(t, x.a, x.b, x.want)
	}
	for _, v := range oddVersions() {
		odd := api.Term{Op: "<>", Version: v}
		both(t, rows(row(odd), row(one)), rows(row(two, odd)), rows(row(odd, two, odd), row(one, two, odd)))
	}
}

func TestP8_1BothOfTexts(t *testing.T) {
	for _, x := range []struct{ a, b, text string }{
		{"*", "*", "*,*"},
		{">=1", "<2", ">=1,<2"},
		{">=1,<2|3.*", "!=1.5", ">=1,<2,!=1.5|=3,!=1.5"},
		{"1|2", "3|4|5", "==1,==3|==1,==4|==1,==5|==2,==3|==2,==4|==2,==5"},
	} {
		a, _ := want.Parse(x.a)
		b, _ := want.Parse(x.b)
		if text := want.Text(want.Both(a, b)); text != x.text {
			t.Errorf("Both of %q and %q is %q", x.a, x.b, text)
		}
	}
}

// What has it has both, and nothing else has it.
func TestP8_1BothHasBoth(t *testing.T) {
	some := append([]api.Want{rows(row(term("=", "1"), term("!=", "1.3"))), rows(row(term(">", "1")), row(term("<", "1")), row(all(), all()))}, small()...)
	var list []api.Version
	for _, s := range []string{"0", "1", "1.3", "1.5", "2"} {
		list = append(list, ver(s))
	}
	for i, a := range some {
		for j := i % 31; j < len(some); j += 31 {
			w := want.Both(a, some[j])
			for _, v := range list {
				if got := want.Has(w, v); got != (want.Has(a, v) && want.Has(some[j], v)) {
					t.Errorf("%v has what is both of %v and %v: %v", v, a, some[j], got)
				}
			}
		}
	}
}

func TestP8_1BothAnswersTheCallersOwn(t *testing.T) {
	// Rows, and lists in them, that are one in what is handed in are several in the answer.
	parts := make([]api.Item, 1, 8)
	v := api.Version{Parts: [][]api.Item{parts, parts}, Local: [][]api.Item{parts}}
	line := append(make([]api.Term, 0, 8), api.Term{Op: ">", Version: v}, api.Term{Op: "<", Version: v})
	w := api.Want{Rows: append(make([][]api.Term, 0, 8), line, line[:1])}
	again := copied(w)
	got := want.Both(w, w)
	apart(t, got, w)
	whole := want.Both(again, again)
	spoil(w)
	if !equal(got, whole) {
		t.Errorf("%v shows what was done to the constraints that were handed in", got)
	}
	other := want.Both(again, again)
	spoil(got)
	if !equal(other, whole) || len(again.Rows) != 2 || !equalTerms(again.Rows[1][0], term(">", "0.0+0")) {
		t.Errorf("%v or %v shows what was done to an answer", other, again)
	}
}
