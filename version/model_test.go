package version_test

import (
	"encoding/binary"
	"math"
	"regexp"
	"slices"
	"strconv"
	"strings"
	"testing"

	"haversack/api"
)

// of is a component, or a part of one: of numbers, words, and items as they are.
func of(pieces ...any) []api.Item {
	var items []api.Item
	for _, piece := range pieces {
		switch x := piece.(type) {
		case int:
			items = append(items, api.Item{N: x})
		case string:
			items = append(items, api.Item{Word: x})
		case api.Item:
			items = append(items, x)
		}
	}
	return items
}

func parts(components ...[]api.Item) [][]api.Item { return components }

// plain is a version of epoch 0 without a local part.
func plain(components ...[]api.Item) api.Version { return api.Version{Parts: components} }

func epoch(n int, v api.Version) api.Version {
	v.Epoch = n
	return v
}

func local(v api.Version, components ...[]api.Item) api.Version {
	v.Local = components
	return v
}

// equal tells whether two versions are the same in all fields; an empty list and none are.
func equal(a, b api.Version) bool {
	same := func(a, b []api.Item) bool { return slices.Equal(a, b) }
	return a.Epoch == b.Epoch && slices.EqualFunc(a.Parts, b.Parts, same) && slices.EqualFunc(a.Local, b.Local, same)
}

func copied(v api.Version) api.Version {
	again := func(row [][]api.Item) [][]api.Item {
		var list [][]api.Item
		for _, component := range row {
			list = append(list, append([]api.Item{}, component...))
		}
		return list
	}
	return api.Version{Epoch: v.Epoch, Parts: again(v.Parts), Local: again(v.Local)}
}

// spoil writes over all that can be reached of a version, up to what its lists hold behind their ends.
func spoil(v api.Version) {
	for _, row := range [][][]api.Item{v.Parts, v.Local} {
		for i, component := range row {
			component = component[:cap(component)]
			for j := range component {
				component[j] = api.Item{N: -9, Word: "spoiled"}
			}
			row[i] = of("spoiled")
		}
		row = row[:cap(row)]
		for i := range row {
			row[i] = of("spoiled")
		}
	}
}

// apart holds that no two lists of a version share memory, not even behind their ends. It writes over them.
func apart(t *testing.T, v api.Version) {
	t.Helper()
	components := append(slices.Clone(v.Parts), v.Local...)
	for i, component := range components {
		component = component[:cap(component)]
		for j := range component {
			component[j].N = i + 1
		}
	}
	for i, component := range components {
		for _, item := range component {
			if item.N != i+1 {
				t.Errorf("component %d shares memory with component %d", i, item.N-1)
			}
		}
	}
	own, others := v.Parts[:cap(v.Parts)], v.Local[:cap(v.Local)]
	for i := range own {
		own[i] = of(1)
	}
	for i := range others {
		others[i] = of(2)
	}
	for _, component := range v.Parts {
		if component[0].N != 1 {
			t.Error("the components share memory with the local part's")
		}
	}
}

const (
	rowGrammar = `[a-z0-9]+(?:[._-][a-z0-9]+)*`
	maxNumber  = 999999999999999
)

// grammar says anew what a version's text in small letters is.
var (
	grammar = regexp.MustCompile(`^(?:([0-9]+)!)?(` + rowGrammar + `)(?:\+(` + rowGrammar + `))?$`)
	between = regexp.MustCompile(`[._-]`)
	runs    = regexp.MustCompile(`[0-9]+|[a-z]+`)
	digits  = regexp.MustCompile(`[0-9]+`)
	needs0  = regexp.MustCompile(`(^|[.!+])0([a-z])`)
)

// modelRead is the version of a text in small letters, of any length.
func modelRead(s string) (v api.Version, ok bool) {
	found := grammar.FindStringSubmatch(s)
	if found == nil {
		return v, false
	}
	for _, run := range digits.FindAllString(s, -1) {
		if len(run) > 15 {
			return v, false
		}
	}
	if found[1] != "" {
		v.Epoch = modelNumber(found[1])
	}
	v.Parts = modelRow(found[2])
	if found[3] != "" {
		v.Local = modelRow(found[3])
	}
	return v, true
}

func modelNumber(s string) int {
	n, err := strconv.ParseInt(s, 10, 64)
	if err != nil {
		panic(err)
	}
	return int(n)
}

func modelRow(s string) [][]api.Item {
	var row [][]api.Item
	for _, text := range between.Split(s, -1) {
		var component []api.Item
		for i, run := range runs.FindAllString(text, -1) {
			if run[0] <= '9' {
				component = append(component, of(modelNumber(run))...)
				continue
			}
			if i == 0 {
				component = of(0)
			}
			component = append(component, of(run)...)
		}
		row = append(row, component)
	}
	return row
}

// modelParse is what Parse should answer.
func modelParse(s string) (api.Version, error) {
	small := strings.Map(func(r rune) rune {
		if 'A' <= r && r <= 'Z' {
			r += 'a' - 'A'
		}
		return r
	}, s)
	v, ok := modelRead(small)
	if len(s) > 40 || !ok {
		return api.Version{}, api.ErrVersion
	}
	return v, nil
}

// literal is a version's text with all that it has, whatever that is.
func literal(v api.Version) string {
	written := func(row [][]api.Item) string {
		var list []string
		for _, component := range row {
			var text strings.Builder
			for _, item := range component {
				if item.Word != "" {
					text.WriteString(item.Word)
				} else {
					text.WriteString(strconv.Itoa(item.N))
				}
			}
			list = append(list, text.String())
		}
		return strings.Join(list, ".")
	}
	text := strconv.Itoa(v.Epoch) + "!" + written(v.Parts)
	if len(v.Local) > 0 {
		text += "+" + written(v.Local)
	}
	return text
}

// modelRight is what Right should answer: a version that isn't what its own text is read as has no text.
func modelRight(v api.Version) bool {
	again, ok := modelRead(literal(v))
	return ok && equal(v, again)
}

// modelText is what Text should answer of a version that is Right.
func modelText(v api.Version) string {
	return needs0.ReplaceAllString(strings.TrimPrefix(literal(v), "0!"), "$1$2")
}

// key is a text that stands to the other items' byte by byte as its item does.
func key(item api.Item) string {
	switch {
	case item.Word == "dev":
		return "0"
	case item.Word == "post":
		return "3"
	case item.Word != "":
		return "1" + item.Word
	}
	return "2" + string(binary.BigEndian.AppendUint64(nil, uint64(item.N)+1<<63))
}

// keys are those of a row of so many components, of so many items each: what it hasn't is 0.
func keys(row [][]api.Item, components, items int) []string {
	list := slices.Repeat([]string{key(api.Item{})}, components*items)
	for i, component := range row[:min(len(row), components)] {
		for j, item := range component {
			list[i*items+j] = key(item)
		}
	}
	return list
}

func widest(rows ...[][]api.Item) int {
	most := 1
	for _, row := range rows {
		for _, component := range row {
			most = max(most, len(component))
		}
	}
	return most
}

func modelRows(a, b [][]api.Item) int {
	most, wide := max(len(a), len(b)), widest(a, b)
	return slices.Compare(keys(a, most, wide), keys(b, most, wide))
}

// modelCompare is what Compare should answer.
func modelCompare(a, b api.Version) int {
	switch {
	case a.Epoch < b.Epoch:
		return -1
	case a.Epoch > b.Epoch:
		return 1
	}
	if c := modelRows(a.Parts, b.Parts); c != 0 {
		return c
	}
	return modelRows(a.Local, b.Local)
}

// modelBegins is what Begins should answer.
func modelBegins(v, p api.Version) bool {
	many := len(p.Parts)
	if many == 0 || len(p.Local) > 0 || v.Epoch != p.Epoch {
		return false
	}
	wide := widest(v.Parts, p.Parts)
	most := (many-1)*wide + len(p.Parts[many-1])
	return slices.Equal(keys(v.Parts, many, wide)[:most], keys(p.Parts, many, wide)[:most])
}

// modelNewest is what Newest should answer.
func modelNewest(list []api.Version) int {
	return slices.IndexFunc(list, func(v api.Version) bool {
		return !slices.ContainsFunc(list, func(w api.Version) bool { return modelCompare(v, w) < 0 })
	})
}

// rowsOf are all rows of up to so many of these pieces.
func rowsOf[P any](most int, pieces ...P) [][]P {
	all := [][]P{nil}
	for from := 0; len(all[from]) < most; from++ {
		for _, piece := range pieces {
			all = append(all, append(slices.Clone(all[from]), piece))
		}
	}
	return all
}

// oddItems are such as no text has where they stand, beside some that it has.
func oddItems() []api.Item {
	return of(0, 1, -1, maxNumber, maxNumber+1, math.MinInt, math.MaxInt, "a", "dev", "post", "A", "DEV", "Post", "a1", "1", ".", "-", "+", "!", " ", "é", "\xff", "\x00", "a.b",
		api.Item{N: 1, Word: "a"}, api.Item{N: -1, Word: "a"}, api.Item{N: 1, Word: "dev"}, api.Item{N: 2, Word: "post"})
}

// oddVersions are some of every kind, most of which no text has.
func oddVersions() []api.Version {
	all := []api.Version{{}, {Epoch: 1}, {Epoch: -1}, {Epoch: math.MinInt}, {Epoch: math.MaxInt}, {Local: parts(of(1))}, {Parts: parts(nil, nil)}, {Parts: parts(of(1)), Local: parts(nil)}, {Parts: parts(nil), Local: parts(nil, of("a"))}}
	for _, item := range oddItems() {
		all = append(all, plain(of(item)), plain(of(0, item)), plain(of(1), of("a", item)), local(plain(of(1)), of(item, item)), epoch(item.N, plain(of(item, 1), nil)))
	}
	return all
}

func TestModel(t *testing.T) {
	if v, ok := modelRead("2!1.0b3_x+l-4"); !ok || !equal(v, epoch(2, local(plain(of(1), of(0, "b", 3), of(0, "x")), of(0, "l"), of(4)))) {
		t.Errorf("the model reads %v", v)
	}
	if text := modelText(epoch(2, local(plain(of(0, "b", 3), of(10, "x"), of(0)), of(0, "l"), of(0, "m")))); text != "2!b3.10x.0+l.m" {
		t.Errorf("the model writes %s", text)
	}
}
