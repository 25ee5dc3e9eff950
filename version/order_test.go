package version_test

import (
	"cmp"
	"math"
	"reflect"
	"slices"
	"testing"

	"haversack/api"
	"haversack/version"
)

// parse is the version of a text that has one.
func parse(t *testing.T, s string) api.Version {
	t.Helper()
	v, err := version.Parse(s)
	if err != nil {
		t.Fatalf("Parse(%q) answers %v", s, err)
	}
	return v
}

// compares holds Compare of two versions, both ways round, and that it leaves them as they are.
func compares(t *testing.T, a, b api.Version, want int) {
	t.Helper()
	wasA, wasB := copied(a), copied(b)
	if got := version.Compare(a, b); got != want {
		t.Errorf("Compare(%v, %v) answers %d, not %d", a, b, got, want)
	}
	if got := version.Compare(b, a); got != -want {
		t.Errorf("Compare(%v, %v) answers %d, not %d", b, a, got, -want)
	}
	if !equal(a, wasA) || !equal(b, wasB) {
		t.Errorf("Compare changed %v or %v", wasA, wasB)
	}
}

// rising are rows of texts: those of a row are held to be the same, and come ahead of those of the next one.
var rising = [][]string{
	{"dev", "0dev", "DEV.0"},
	{"a"},
	{"0.dev", "0.0dev", "0!0.dev", "0_0DEV"},
	{"0.a", "0.0a"},
	{"0.0.a"},
	{"0", "0.0", "0_0-0", "00", "0+0", "0!0", "0.0+0.0"},
	{"0+1", "0.0+1.0"},
	{"0.0.post"},
	{"0.0.1"},
	{"0.post", "0.0post"},
	{"0.1", "0.01.0"},
	{"post", "0post"},
	{"1.dev", "1.0dev", "1_dev"},
	{"1.0dev1"},
	{"1.0a", "1.a"},
	{"1.0a1", "1.a1", "1.0A1", "1.0a01", "1.0a1.0"},
	{"1.0a2"},
	{"1.0a10"},
	{"1.0ab"},
	{"1.0b"},
	{"1.0rc1"},
	{"1.0z"},
	{"1.0.dev", "1.0.0dev"},
	{"1.0.a"},
	{"1.0+dev"},
	{"1.0+a"},
	{"1.0", "1", "1.0.0", "1-0", "01", "1.0+0", "0!1", "1.0.0+0.0.0"},
	{"1.0+0.1"},
	{"1.0+post"},
	{"1.0+1", "1+1", "1+01.0"},
	{"1.0+1.1"},
	{"1.0+2"},
	{"1.0+10"},
	{"1.0.0.1"},
	{"1.0.post"},
	{"1.0.1"},
	{"1.0post", "1.post", "1.0post0", "1.0POST.0"},
	{"1.0post1"},
	{"1.1"},
	{"1.1.1a"},
	{"1.1.1"},
	{"1.2"},
	{"1.10"},
	{"1.10.3"},
	{"1post"},
	{"2a"},
	{"2a1"},
	{"2"},
	{"10"},
	{"999999999999999"},
	{"1!dev"},
	{"1!0", "1!0.0", "01!0"},
	{"1!0+1"},
	{"1!1"},
	{"2!0"},
	{"10!0"},
	{"999999999999999!0"},
}

func TestP7_1CompareOfTexts(t *testing.T) {
	for i, row := range rising {
		for _, s := range row {
			for j, others := range rising {
				for _, other := range others {
					compares(t, parse(t, s), parse(t, other), cmp.Compare(i, j))
				}
			}
		}
	}
}

func TestP7_1CompareExamples(t *testing.T) {
	compares(t, parse(t, "1.0dev"), parse(t, "1.0a1"), -1)
	compares(t, parse(t, "1.0a1"), parse(t, "1.0"), -1)
	compares(t, parse(t, "1.0"), parse(t, "1.0.0"), 0)
	compares(t, parse(t, "1.0.0"), parse(t, "1.0post"), -1)
	compares(t, parse(t, "1.0post"), parse(t, "1.1"), -1)
}

// Items of every two kinds, the lesser one ahead; also such as no text has.
func TestP7_1CompareItems(t *testing.T) {
	rise := [][]api.Item{
		of("dev", api.Item{N: 5, Word: "dev"}),
		of("\x00"), of(" "), of("-"), of("0"), of("1"), of("10"), of("9"), of("A"), of("DEV"), of("POST"), of("Z"), of("_"),
		of("a", api.Item{N: 7, Word: "a"}, api.Item{N: -7, Word: "a"}), of("a\x00"), of("aa"), of("ab"), of("alpha"), of("b"), of("beta"), of("de"), of("deu"), of("dev\x00"), of("deva"), of("dew"), of("e"),
		of("p"), of("pos"), of("post\x00"), of("posta"), of("posts"), of("q"), of("rc"), of("z"), of("zz"), of("é"), of("\xff"), of("\xff\xff"),
		of(math.MinInt, api.Item{N: math.MinInt}), of(math.MinInt + 1), of(-1 << 33), of(-2), of(-1), of(0, ""), of(1), of(2), of(9), of(10), of(11), of(99), of(100), of(1<<32 - 1), of(1 << 32), of(1<<32 + 1), of(maxNumber), of(maxNumber + 1), of(math.MaxInt - 1), of(math.MaxInt),
		of("post", api.Item{N: -5, Word: "post"}),
	}
	for i, row := range rise {
		for _, a := range row {
			for j, others := range rise {
				want := cmp.Compare(i, j)
				for _, b := range others {
					compares(t, plain(of(a)), plain(of(b)), want)
					compares(t, plain(of(3), of(0, "x", a)), plain(of(3), of(0, "x", b)), want)
					compares(t, local(plain(of(1)), of(a)), local(plain(of(1)), of(b)), want)
				}
			}
		}
	}
}

func TestP7_1CompareShorter(t *testing.T) {
	for _, x := range []struct {
		a, b api.Version
		want int
	}{
		// components, the one of which is shorter
		{plain(of(1)), plain(of(1, "a")), 1},
		{plain(of(1)), plain(of(1, "dev")), 1},
		{plain(of(1)), plain(of(1, "post")), -1},
		{plain(of(1)), plain(of(1, 0)), 0},
		{plain(of(1)), plain(of(1, 1)), -1},
		{plain(of(1)), plain(of(1, -1)), 1},
		{plain(of(1)), plain(of(1, "")), 0},
		{plain(of(1)), plain(of(1, 0, "a")), 1},
		{plain(of(1)), plain(of(1, 0, "post")), -1},
		{plain(of(1, "a")), plain(of(1, "a", 0)), 0},
		{plain(of(1, "a")), plain(of(1, "a", 1)), -1},
		{plain(of(1, "a")), plain(of(1, "a", 0, 0, 0, 0)), 0},
		{plain(of(1, "a")), plain(of(1, "a", 0, "b")), 1},
		{plain(nil), plain(of(0)), 0},
		{plain(nil), plain(of(0, 0)), 0},
		{plain(nil), plain(of(1)), -1},
		{plain(nil), plain(of(-1)), 1},
		{plain(nil), plain(of("a")), 1},
		{plain(nil), plain(of("post")), -1},
		{plain(nil, of(1)), plain(of(0), of(1)), 0},
		// rows, the one of which is shorter
		{plain(), plain(of(0)), 0},
		{plain(), plain(nil, nil), 0},
		{plain(), plain(of(0), of(0, 0)), 0},
		{plain(), plain(of(0), of(0, "a")), 1},
		{plain(), plain(of(0), of(0, "post")), -1},
		{plain(), plain(of(0), nil, of(1)), -1},
		{plain(of(1)), plain(of(1), of(0), of(0)), 0},
		{plain(of(1)), plain(of(1), of(0), of(1)), -1},
		{plain(of(1)), plain(of(1), of(0), of(0, "dev")), 1},
		{plain(of(1)), plain(of(1), of(-1)), 1},
		// the first component that is another one counts
		{plain(of(1), of(2)), plain(of(2), of(1)), -1},
		{plain(of(1), of(0, "a"), of(5)), plain(of(1), of(0), of(0)), -1},
		{plain(of(1, "a"), of(9)), plain(of(1)), -1},
		{plain(of(1, "post")), plain(of(1), of(9)), 1},
		// epochs ahead of components, components ahead of local parts
		{epoch(1, plain(of(0))), plain(of(9)), 1},
		{epoch(-1, plain(of(9))), plain(of(0)), -1},
		{epoch(math.MinInt, plain()), epoch(math.MaxInt, plain()), -1},
		{epoch(1<<32, plain()), epoch(0, plain()), 1},
		{epoch(1<<32, plain()), epoch(1, plain()), 1},
		{epoch(1, local(plain(of(1)), of(9))), epoch(2, plain(of(1))), -1},
		{local(plain(of(1)), of(9)), plain(of(1), of(1)), -1},
		{local(plain(of(1)), of(0)), plain(of(1)), 0},
		{local(plain(of(1)), nil), plain(of(1)), 0},
		{local(plain(of(1)), nil, of(0, 0)), plain(of(1)), 0},
		{local(plain(of(1)), of(1)), plain(of(1)), 1},
		{local(plain(of(1)), of(0, "a")), plain(of(1)), -1},
		{local(plain(of(1)), of(0, "post")), plain(of(1)), 1},
		{local(plain(of(1)), of(2), of(1)), local(plain(of(1)), of(2)), 1},
		{local(plain(of(1)), of(2)), local(plain(of(1), of(0)), of(2), of(0)), 0},
		{api.Version{Local: parts(of(1))}, api.Version{}, 1},
	} {
		compares(t, x.a, x.b, x.want)
		if modelCompare(x.a, x.b) != x.want {
			t.Errorf("the model says %d of %v and %v", modelCompare(x.a, x.b), x.a, x.b)
		}
	}
}

// small are all versions of up to two components of up to two items, as parts or as a local part.
func small() []api.Version {
	components := rowsOf(2, of(0, 1, "a", "post")...)
	var all []api.Version
	for _, row := range rowsOf(2, components...) {
		all = append(all, api.Version{Parts: row})
	}
	return all
}

func TestP7_1CompareSmall(t *testing.T) {
	all := small()
	for _, a := range all {
		for _, b := range all {
			if got := version.Compare(a, b); got != modelCompare(a, b) {
				t.Errorf("Compare(%v, %v) answers %d", a, b, got)
			}
		}
	}
	odd := oddVersions()
	for _, a := range odd {
		for _, b := range odd {
			compares(t, a, b, modelCompare(a, b))
		}
	}
}

func TestP7_1CompareLocal(t *testing.T) {
	rows := rowsOf(2, rowsOf(1, of(0, 1, "a", "post")...)...)
	for _, a := range rows {
		for _, b := range rows {
			for _, others := range [][][]api.Item{a, b, nil} {
				v, w := api.Version{Parts: a, Local: b}, api.Version{Parts: b, Local: others}
				compares(t, v, w, modelCompare(v, w))
				compares(t, epoch(1, v), epoch(1, w), modelCompare(v, w))
				compares(t, epoch(1, v), epoch(2, w), -1)
			}
		}
	}
}

// orders holds that Compare is an order of some versions: of any two, and any three.
func orders(t *testing.T, list []api.Version) {
	t.Helper()
	held := make([][]int, len(list))
	for i, a := range list {
		for _, b := range list {
			held[i] = append(held[i], version.Compare(a, b))
		}
	}
	for i := range list {
		if held[i][i] != 0 {
			t.Errorf("%v isn't held to be the same as itself", list[i])
		}
		for j := range list {
			if held[i][j] < -1 || held[i][j] > 1 || held[i][j] != -held[j][i] {
				t.Errorf("Compare of %v and %v answers %d, of the one and the other %d", list[i], list[j], held[i][j], held[j][i])
			}
			for k := range list {
				if held[i][j] <= 0 && held[j][k] <= 0 && held[i][k] != min(held[i][j], held[j][k]) {
					t.Errorf("%v isn't to %v as %v, which is between, says", list[i], list[k], list[j])
				}
			}
		}
	}
}

func TestP7_2CompareIsAnOrder(t *testing.T) {
	var read []api.Version
	for _, row := range rising {
		for _, s := range row {
			read = append(read, parse(t, s))
		}
	}
	orders(t, read)
	orders(t, oddVersions())
	var some []api.Version
	for i, v := range small() {
		if i%4 == 0 {
			some = append(some, v)
		}
	}
	orders(t, some)
	mixed := []api.Version{}
	for i, row := range rowsOf(2, of(0), of(1), of(0, "a"), of("post"), nil) {
		mixed = append(mixed, api.Version{Epoch: i % 2, Parts: row, Local: row}, api.Version{Parts: row}, api.Version{Parts: parts(of(1)), Local: row})
	}
	orders(t, mixed)
}

// begins holds Begins of two versions, and that it leaves them as they are.
func begins(t *testing.T, v, p api.Version, want bool) {
	t.Helper()
	wasV, wasP := copied(v), copied(p)
	if got := version.Begins(v, p); got != want {
		t.Errorf("Begins(%v, %v) answers %v", v, p, got)
	}
	if !equal(v, wasV) || !equal(p, wasP) {
		t.Errorf("Begins changed %v or %v", wasV, wasP)
	}
}

func TestP7_1BeginsOfTexts(t *testing.T) {
	for _, x := range []struct {
		v, p string
		want bool
	}{
		{"1.10.3", "1.10", true},
		{"1.10.3", "1.1", false},
		{"1.10.3", "1", true},
		{"1.10.3", "1.10.3", true},
		{"1.10.3", "1.10.2", false},
		{"1.10.3", "2", false},
		{"1.1", "1.10", false},
		{"2.10", "1.10", false},
		// a shorter and a longer last component
		{"1.0a1", "1.0", true},
		{"1.0a1", "1.0a", true},
		{"1.0a1", "1.0a1", true},
		{"1.0a1", "1.0a1.0", true},
		{"1.0a1", "1.0a1b", false},
		{"1.0a1", "1.0b", false},
		{"1.0a1", "1.a", true},
		{"1.0a10", "1.0a1", false},
		{"1.0ab", "1.0a", false},
		{"1.0a", "1.0ab", false},
		{"1.0", "1.0a", false},
		{"1.0", "1.0dev", false},
		{"1.0", "1.0post", false},
		{"1.0post", "1.0", true},
		{"1.0dev", "1.0", true},
		{"1.1a", "1.1", true},
		{"1.1", "1.1a", false},
		{"1a", "1a0", true},
		{"1a", "1a1", false},
		{"1a.5", "1", true},
		// components that aren't the last are held whole
		{"1a.5", "1.5", false},
		{"1.5", "1a.5", false},
		{"1a0.5", "1a.5", true},
		{"1a.5", "1a0.5", true},
		{"1.0a.5", "1.0.5", false},
		// more components than v
		{"1", "1.0", true},
		{"1", "1.0.0.0", true},
		{"1", "1.0.1", false},
		{"1", "1.0.0a", false},
		{"1", "1.1", false},
		{"1.0", "1", true},
		{"1a", "1.0", false},
		{"1a", "1a.0", true},
		{"0", "0.0", true},
		// epochs
		{"1!1.2", "1!1", true},
		{"1!1.2", "1.2", false},
		{"1.2", "1!1", false},
		{"1!1.2", "2!1.2", false},
		{"0!1.2", "1.2", true},
		// local parts
		{"1.2+a", "1.2", true},
		{"1.2+a", "1", true},
		{"1.2+a", "1.2+a", false},
		{"1.2", "1.2+0", false},
		{"1.2", "1+0", false},
		{"1.2+1", "1.3", false},
		// letters and noughts
		{"1.RC1", "1.rc", true},
		{"01.02", "1.2", true},
		{"1_2-3", "1.2", true},
	} {
		begins(t, parse(t, x.v), parse(t, x.p), x.want)
	}
}

func TestP7_1BeginsOfAnyVersions(t *testing.T) {
	for _, x := range []struct {
		v, p api.Version
		want bool
	}{
		// without components
		{plain(of(1)), plain(), false},
		{plain(), plain(), false},
		{plain(), plain(of(0)), true},
		{plain(), plain(nil), true},
		{plain(), plain(of(0), of(0, 0)), true},
		{plain(), plain(of(1)), false},
		{plain(), plain(of(0), of("a")), false},
		{epoch(1, plain()), plain(of(0)), false},
		{plain(of(1)), epoch(0, api.Version{Local: parts(of(1))}), false},
		// without items
		{plain(of(1)), plain(nil), true},
		{plain(of(1), of(2)), plain(of(1), nil), true},
		{plain(of(1), of(2)), plain(nil, of(2)), false},
		{plain(nil, of(2)), plain(of(0), of(2)), true},
		{plain(of(0, 0), of(2)), plain(nil, of(2, "a")), false},
		{plain(of(0, 0), of(2, "a")), plain(nil, of(2)), true},
		{plain(of(1), nil), plain(of(1), of(0)), true},
		{plain(of(1), nil), plain(of(1), of(1)), false},
		// a local part that is one: of empty components, too
		{plain(of(1)), local(plain(of(1)), nil), false},
		{plain(of(1)), api.Version{Parts: parts(of(1)), Local: parts()}, true},
		{local(plain(of(1)), nil), plain(of(1)), true},
		{local(plain(of(1), of(2)), of(1)), plain(of(1)), true},
		// items that no text has
		{plain(of(-1, 2)), plain(of(-1)), true},
		{plain(of(-1)), plain(of(1)), false},
		{plain(of("A")), plain(of("a")), false},
		{plain(of("a", "b")), plain(of("a")), true},
		{plain(of(api.Item{N: 1, Word: "a"}), of(1)), plain(of("a"), of(1)), true},
		{epoch(-1, plain(of(1))), epoch(-1, plain(of(1))), true},
		{epoch(math.MinInt, plain(of(1))), epoch(math.MaxInt, plain(of(1))), false},
		{epoch(1<<32, plain(of(1))), plain(of(1)), false},
	} {
		begins(t, x.v, x.p, x.want)
		if modelBegins(x.v, x.p) != x.want {
			t.Errorf("the model says %v of %v and %v", !x.want, x.v, x.p)
		}
	}
}

func TestP7_1BeginsSmall(t *testing.T) {
	all := small()
	for _, v := range all {
		for _, p := range all {
			if got := version.Begins(v, p); got != modelBegins(v, p) {
				t.Errorf("Begins(%v, %v) answers %v", v, p, got)
			}
		}
	}
	few := append(oddVersions(), local(plain(of(1)), of(1)), epoch(1, plain(of(1))))
	for _, row := range rowsOf(3, of(0), of(1), of(1, "a")) {
		few = append(few, api.Version{Parts: row}, api.Version{Epoch: 1, Parts: row}, api.Version{Parts: row, Local: row})
	}
	for _, v := range few {
		for _, p := range few {
			begins(t, v, p, modelBegins(v, p))
		}
	}
}

func TestP7_1Shorter(t *testing.T) {
	for _, x := range []struct{ v, want api.Version }{
		{plain(of(1), of(2)), plain(of(1))},
		{plain(of(1), of(2), of(3)), plain(of(1), of(2))},
		{plain(of(0), of(0)), plain(of(0))},
		{plain(of(0, "a", 1), of(0, "b", 2), of(3, "c")), plain(of(0, "a", 1), of(0, "b", 2))},
		{epoch(7, plain(of(1), of(2))), epoch(7, plain(of(1)))},
		{local(plain(of(1), of(2)), of(3)), plain(of(1))},
		{local(plain(of(1), of(2), of(3)), of(4), of(5), of(6)), plain(of(1), of(2))},
		{epoch(1, local(plain(of(1), of(2)), of(0, "x"), of(9))), epoch(1, plain(of(1)))},
		// such as no text has
		{plain(nil, nil), plain(nil)},
		{plain(of("A"), of(-1), of(5)), plain(of("A"), of(-1))},
		{epoch(-5, local(plain(of(api.Item{N: 3, Word: "x"}), of(1)), nil)), epoch(-5, plain(of(api.Item{N: 3, Word: "x"})))},
		{epoch(math.MinInt, plain(of(1), of(2))), epoch(math.MinInt, plain(of(1)))},
	} {
		was := copied(x.v)
		got, err := version.Shorter(x.v)
		if err != nil || !equal(got, x.want) {
			t.Errorf("Shorter(%v) answers %v, %v", was, got, err)
		}
		if !equal(x.v, was) {
			t.Errorf("Shorter changed %v", was)
		}
	}
	for _, v := range []api.Version{
		{}, plain(of(1)), plain(nil), plain(of(1, "a", 2, "b")), epoch(1, plain(of(1))), epoch(9, api.Version{}),
		local(plain(of(1)), of(2), of(3)), {Local: parts(of(1), of(2), of(3))}, {Parts: parts()},
	} {
		if got, err := version.Shorter(v); err != api.ErrRange || !reflect.ValueOf(got).IsZero() {
			t.Errorf("Shorter(%v) answers %v, %v", v, got, err)
		}
	}
}

func TestP7_1ShorterOfWhatWasRead(t *testing.T) {
	for s, want := range map[string]string{"1.2": "1", "1.2.3": "1.2", "2!1.a.3+x.y": "2!1.a", "1-0a_5": "1.a", "a.b": "a"} {
		v, err := version.Shorter(parse(t, s))
		if err != nil || !equal(v, parse(t, want)) || !version.Right(v) || !version.Begins(parse(t, s), v) {
			t.Errorf("Shorter of %s answers %v, %v", s, v, err)
		}
	}
	if _, err := version.Shorter(parse(t, "1+2.3")); err != api.ErrRange {
		t.Errorf("Shorter of 1+2.3 answers %v", err)
	}
}

func TestP7_1ShorterAnswersTheCallersOwn(t *testing.T) {
	want := epoch(1, plain(of(1, "a"), of(2)))
	v := epoch(1, local(plain(of(1, "a"), of(2), of(3)), of(4)))
	got, _ := version.Shorter(v)
	was := copied(v)
	other, _ := version.Shorter(v)
	spoil(other)
	if !equal(v, was) {
		t.Errorf("%v shows what was done to an answer", v)
	}
	spoil(v)
	if !equal(got, want) {
		t.Errorf("%v shows what was done to the version that was handed in", got)
	}
	// Lists that are one in what is handed in are two in the answer.
	one := make([]api.Item, 1, 8)
	short, _ := version.Shorter(plain(one, one, one[:1:1], one))
	apart(t, short)
}

func newest(t *testing.T, list []api.Version, want int) {
	t.Helper()
	var was []api.Version
	for _, v := range list {
		was = append(was, copied(v))
	}
	if got := version.Newest(list...); got != want {
		t.Errorf("Newest(%v) answers %d, not %d", list, got, want)
	}
	if !slices.EqualFunc(list, was, equal) {
		t.Errorf("Newest changed %v", was)
	}
}

func TestP7_1Newest(t *testing.T) {
	for _, x := range []struct {
		texts []string
		want  int
	}{
		{nil, -1},
		{[]string{"0"}, 0},
		{[]string{"dev"}, 0},
		{[]string{"1", "2"}, 1},
		{[]string{"2", "1"}, 0},
		{[]string{"1", "3", "2"}, 1},
		{[]string{"1.9", "1.10", "1.2"}, 1},
		{[]string{"1.0dev", "1.0a1", "1.0", "1.0post", "1.1"}, 4},
		{[]string{"1.1", "1.0post", "1.0", "1.0a1", "1.0dev"}, 0},
		{[]string{"2", "1!0", "3"}, 1},
		{[]string{"1", "1+1", "1+a"}, 1},
		{[]string{"0", "dev", "a"}, 0},
		// some that are held to be the same
		{[]string{"1.0", "1"}, 0},
		{[]string{"1", "1.0", "1.0.0"}, 0},
		{[]string{"0", "1.0", "1", "0"}, 1},
		{[]string{"1", "2.0", "1.0", "2", "2.0.0"}, 1},
		{[]string{"1", "2a", "2", "2.0", "2b"}, 2},
	} {
		var list []api.Version
		for _, s := range x.texts {
			list = append(list, parse(t, s))
		}
		newest(t, list, x.want)
	}
	newest(t, []api.Version{{}}, 0)
	newest(t, []api.Version{{}, {}}, 0)
	newest(t, []api.Version{epoch(math.MinInt, plain()), epoch(-1, plain())}, 1)
	newest(t, []api.Version{plain(of(-1)), plain(of("a")), {}, plain(of(0))}, 2)
}

func TestP7_1NewestSmall(t *testing.T) {
	for _, list := range rowsOf(5, plain(of(1)), plain(of(1), of(0)), plain(of(0, "a")), epoch(1, plain(of(0))), local(plain(of(1)), of(1)), api.Version{}) {
		newest(t, list, modelNewest(list))
	}
	odd := oddVersions()
	newest(t, odd, modelNewest(odd))
	slices.Reverse(odd)
	newest(t, odd, modelNewest(odd))
	many := slices.Repeat([]api.Version{plain(of(1))}, 1000)
	many[700], many[800] = plain(of(2)), plain(of(2), of(0))
	newest(t, many, 700)
}

// What is behind many components and items that are held to be the same counts as well.
func TestP7_1CompareAndBeginsOfLong(t *testing.T) {
	for _, many := range []int{20, 31, 64, 257, 5000} {
		var row [][]api.Item
		for range many {
			row = append(row, of(0))
		}
		long := slices.Repeat(of(0, "a"), many)
		for _, x := range []struct {
			last any
			want int
		}{{1, 1}, {0, 0}, {"a", -1}, {"post", 1}, {-1, -1}} {
			rows := api.Version{Parts: append(slices.Clone(row), of(x.last))}
			compares(t, rows, plain(), x.want)
			compares(t, rows, plain(of(0)), x.want)
			compares(t, local(plain(of(1)), rows.Parts...), plain(of(1)), x.want)
			begins(t, plain(), rows, x.want == 0)
			begins(t, rows, rows, true)
			begins(t, rows, api.Version{Parts: row}, true)
			begins(t, api.Version{Parts: row}, rows, x.want == 0)
			items := plain(append(slices.Clone(long), of(x.last)...))
			compares(t, items, plain(long), x.want)
			begins(t, plain(long), items, x.want == 0)
			begins(t, items, plain(long), true)
			begins(t, plain(append(of(items.Parts[0][0]), items.Parts[0][1:]...), of(5)), items, true)
		}
	}
}
