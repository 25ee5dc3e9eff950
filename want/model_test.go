package want_test

import (
	"reflect"
	"regexp"
	"slices"
	"strings"
	"testing"

	"haversack/api"
	"haversack/version"
)

// ver is the version of a text that has one.
func ver(s string) api.Version {
	v, err := version.Parse(s)
	if err != nil {
		panic("no version: " + s)
	}
	return v
}

// term is an operator and the version of a text, whether it may stand there or not.
func term(op, s string) api.Term { return api.Term{Op: op, Version: ver(s)} }

// all is the term of "*".
func all() api.Term { return api.Term{Op: "*"} }

func row(terms ...api.Term) []api.Term { return terms }

func rows(list ...[]api.Term) api.Want { return api.Want{Rows: list} }

// operators are in the document's order.
var operators = []string{"==", "!=", ">=", "<=", ">", "<", "~=", "="}

// equalVersions tells whether two versions are the same in all fields; an empty list and none are.
func equalVersions(a, b api.Version) bool {
	same := func(a, b []api.Item) bool { return slices.Equal(a, b) }
	return a.Epoch == b.Epoch && slices.EqualFunc(a.Parts, b.Parts, same) && slices.EqualFunc(a.Local, b.Local, same)
}

func equalTerms(a, b api.Term) bool { return a.Op == b.Op && equalVersions(a.Version, b.Version) }

func equal(a, b api.Want) bool {
	return slices.EqualFunc(a.Rows, b.Rows, func(a, b []api.Term) bool { return slices.EqualFunc(a, b, equalTerms) })
}

// copied is a value with lists of its own all through; what lists hold behind their ends is left out.
func copied[T any](value T) T {
	return copiedValue(reflect.ValueOf(value)).Interface().(T)
}

func copiedValue(v reflect.Value) reflect.Value {
	again := reflect.New(v.Type()).Elem()
	again.Set(v)
	switch v.Kind() {
	case reflect.Slice:
		if v.IsNil() {
			return again
		}
		again.Set(reflect.MakeSlice(v.Type(), v.Len(), v.Len()))
		for i := range v.Len() {
			again.Index(i).Set(copiedValue(v.Index(i)))
		}
	case reflect.Struct:
		for i := range v.NumField() {
			again.Field(i).Set(copiedValue(v.Field(i)))
		}
	}
	return again
}

// spoil writes zero values over all lists that can be reached, up to what they hold behind their ends.
func spoil(value any) {
	each(reflect.ValueOf(value), func(list reflect.Value) {
		whole := list.Slice(0, list.Cap())
		for i := range whole.Len() {
			whole.Index(i).SetZero()
		}
	})
}

// each calls f with each list that can be reached, inner ones first.
func each(v reflect.Value, f func(list reflect.Value)) {
	switch v.Kind() {
	case reflect.Slice:
		for i := range v.Len() {
			each(v.Index(i), f)
		}
		f(v)
	case reflect.Struct:
		for i := range v.NumField() {
			each(v.Field(i), f)
		}
	}
}

// apart holds that no two lists of some values share memory, not even behind their ends; an argument's lists may share it with one another.
func apart(t *testing.T, answer any, arguments ...any) {
	t.Helper()
	type extent struct{ from, to uintptr }
	reached := func(value any) []extent {
		var list []extent
		each(reflect.ValueOf(value), func(v reflect.Value) {
			if size := uintptr(v.Cap()) * v.Type().Elem().Size(); size > 0 {
				list = append(list, extent{v.Pointer(), v.Pointer() + size})
			}
		})
		return list
	}
	meets := func(a, b extent) bool { return a.from < b.to && b.from < a.to }
	own := reached(answer)
	for i, a := range own {
		if slices.ContainsFunc(own[:i], func(b extent) bool { return meets(a, b) }) {
			t.Errorf("two lists of %v share memory", answer)
		}
		for _, argument := range arguments {
			if slices.ContainsFunc(reached(argument), func(b extent) bool { return meets(a, b) }) {
				t.Errorf("%v shares memory with %v", answer, argument)
			}
		}
	}
}

const modelRow = `[a-zA-Z0-9]+(?:[._-][a-zA-Z0-9]+)*`

// modelTerm says anew what a term's text is, but for how long its version and the numbers in it may be.
var modelTerm = regexp.MustCompile(`^(==|!=|>=|<=|>|<|~=|=)?((?:[0-9]+!)?` + modelRow + `(\+` + modelRow + `)?)(\.?\*)?$`)

// modelRead is the term of a text, if it has one.
func modelRead(s string) (api.Term, bool) {
	if s == "*" {
		return all(), true
	}
	found := modelTerm.FindStringSubmatch(s)
	if found == nil {
		return api.Term{}, false
	}
	op, isLocal, isStarred := found[1], found[3] != "", found[4] != ""
	if isStarred && op != "" && op != "=" {
		return api.Term{}, false
	}
	if op == "" {
		op = map[bool]string{false: "==", true: "="}[isStarred]
	}
	v, err := version.Parse(found[2])
	if err != nil || isLocal && strings.Contains("~=", op) || op == "~=" && len(v.Parts) == 1 {
		return api.Term{}, false
	}
	return api.Term{Op: op, Version: v}, true
}

// modelParse is what Parse should answer.
func modelParse(s string) (api.Want, error) {
	if strings.Count(strings.ReplaceAll(s, "|", ","), ",") > 15 {
		return api.Want{}, api.ErrSpec
	}
	var w api.Want
	for _, line := range strings.Split(s, "|") {
		var terms []api.Term
		for _, text := range strings.Split(line, ",") {
			one, ok := modelRead(text)
			if !ok {
				return api.Want{}, api.ErrVersion
			}
			terms = append(terms, one)
		}
		w.Rows = append(w.Rows, terms)
	}
	return w, nil
}

// modelText is what Text should answer of a constraint that is Right.
func modelText(w api.Want) string {
	var lines []string
	for _, terms := range w.Rows {
		var list []string
		for _, one := range terms {
			if one.Op == "*" {
				list = append(list, "*")
			} else {
				list = append(list, one.Op+version.Text(one.Version))
			}
		}
		lines = append(lines, strings.Join(list, ","))
	}
	return strings.Join(lines, "|")
}

// modelHasTerm tells by the signs that Compare may answer.
func modelHasTerm(one api.Term, v api.Version) bool {
	sign := "-0+"[version.Compare(v, one.Version)+1:][:1]
	switch one.Op {
	case "*":
		return true
	case "=":
		return version.Begins(v, one.Version)
	case "~=":
		shorter, err := version.Shorter(one.Version)
		return sign != "-" && err == nil && version.Begins(v, shorter)
	}
	return strings.Contains(map[string]string{"==": "0", "!=": "-+", ">=": "0+", "<=": "-0", ">": "+", "<": "-"}[one.Op], sign)
}

// modelHas is what Has should answer.
func modelHas(w api.Want, v api.Version) bool {
	some := false
	for _, terms := range w.Rows {
		lacks := 0
		for _, one := range terms {
			if !modelHasTerm(one, v) {
				lacks++
			}
		}
		some = some || lacks == 0
	}
	return some
}

// short calls f with each row of up to so many of these pieces.
func short[P any](most int, pieces []P, f func(list []P)) {
	var longer func(list []P)
	longer = func(list []P) {
		f(list)
		if len(list) < most {
			for _, piece := range pieces {
				longer(append(slices.Clone(list), piece))
			}
		}
	}
	longer(nil)
}

func TestModel(t *testing.T) {
	got, err := modelParse("1!2.a+b,*|~=1.0|=3|3.*,3*")
	want := rows(row(term("==", "1!2.a+b"), all()), row(term("~=", "1.0")), row(term("=", "3")), row(term("=", "3"), term("=", "3")))
	if err != nil || !equal(got, want) || modelText(got) != "==1!2.a+b,*|~=1.0|=3|=3,=3" {
		t.Errorf("the model reads %v, %v", got, err)
	}
	again := copied(want)
	apart(t, again, want)
	spoil(again.Rows[0])
	if equal(again, want) || !equalTerms(again.Rows[0][1], api.Term{}) || !equalTerms(want.Rows[0][0], term("==", "1!2.a+b")) {
		t.Errorf("%v isn't spoiled, or %v is", again, want)
	}
	if !modelHas(got, ver("1.5")) || modelHas(got, ver("2")) {
		t.Error("the model says that 1.5 hasn't, or that 2 has")
	}
}
