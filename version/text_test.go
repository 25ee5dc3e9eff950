package version_test

import (
	"math"
	"reflect"
	"strconv"
	"strings"
	"testing"

	"haversack/api"
	"haversack/version"
)

// accept holds that a text is read as a version, which is Right, and whose text is read as it again (P7.2).
func accept(t *testing.T, s string, want api.Version) {
	t.Helper()
	v, err := version.Parse(s)
	if err != nil || !equal(v, want) {
		t.Errorf("Parse(%q) answers %v, %v, not %v", s, v, err, want)
		return
	}
	if !version.Right(v) {
		t.Errorf("Parse(%q) answers %v, which isn't Right", s, v)
	}
	text := version.Text(v)
	if again, err := version.Parse(text); err != nil || !equal(again, v) || version.Compare(again, v) != 0 {
		t.Errorf("the text of what %q is read as, %q, is read as %v, %v", s, text, again, err)
	}
	if len(text) > len(s) || text != modelText(v) {
		t.Errorf("Text(%v) answers %q", v, text)
	}
}

// refuse holds that a text is answered by ErrVersion, and by nothing else.
func refuse(t *testing.T, s string) {
	t.Helper()
	if v, err := version.Parse(s); err != api.ErrVersion || !reflect.ValueOf(v).IsZero() {
		t.Errorf("Parse(%q) answers %v, %v", s, v, err)
	}
}

// check holds Parse against the model.
func check(t *testing.T, s string) {
	t.Helper()
	if want, err := modelParse(s); err != nil {
		refuse(t, s)
	} else {
		accept(t, s, want)
	}
}

func TestP7_1Parse(t *testing.T) {
	for _, x := range []struct {
		s    string
		want api.Version
	}{
		// one byte
		{"0", plain(of(0))},
		{"7", plain(of(7))},
		{"a", plain(of(0, "a"))},
		{"Z", plain(of(0, "z"))},
		// components
		{"1.10.3", plain(of(1), of(10), of(3))},
		{"1_10_3", plain(of(1), of(10), of(3))},
		{"1-10-3", plain(of(1), of(10), of(3))},
		{"1.2_3-4", plain(of(1), of(2), of(3), of(4))},
		{"0.0", plain(of(0), of(0))},
		// items
		{"1.0dev", plain(of(1), of(0, "dev"))},
		{"1.0a1", plain(of(1), of(0, "a", 1))},
		{"1.a1", plain(of(1), of(0, "a", 1))},
		{"1.0.post", plain(of(1), of(0), of(0, "post"))},
		{"1.0.post1", plain(of(1), of(0), of(0, "post", 1))},
		{"1a", plain(of(1, "a"))},
		{"a1b", plain(of(0, "a", 1, "b"))},
		{"00a", plain(of(0, "a"))},
		{"a0", plain(of(0, "a", 0))},
		{"1a2b3c4d", plain(of(1, "a", 2, "b", 3, "c", 4, "d"))},
		{"x1x2x3", plain(of(0, "x", 1, "x", 2, "x", 3))},
		{"2024a", plain(of(2024, "a"))},
		{"1.0.2zk", plain(of(1), of(0), of(2, "zk"))},
		// an epoch
		{"1!2", epoch(1, plain(of(2)))},
		{"0!2", plain(of(2))},
		{"000!2", plain(of(2))},
		{"12!0", epoch(12, plain(of(0)))},
		{"007!a.1", epoch(7, plain(of(0, "a"), of(1)))},
		{"999999999999999!1", epoch(maxNumber, plain(of(1)))},
		{"000000000000001!1", epoch(1, plain(of(1)))},
		// a local part
		{"1+2", local(plain(of(1)), of(2))},
		{"1+a", local(plain(of(1)), of(0, "a"))},
		{"1.0+cu118.post_2-x", local(plain(of(1), of(0)), of(0, "cu", 118), of(0, "post"), of(2), of(0, "x"))},
		{"3!a+b", epoch(3, local(plain(of(0, "a")), of(0, "b")))},
		{"1+0", local(plain(of(1)), of(0))},
		{"1+00.1a", local(plain(of(1)), of(0), of(1, "a"))},
		// needless noughts, and 15 digits
		{"01.002", plain(of(1), of(2))},
		{"00", plain(of(0))},
		{"1a01", plain(of(1, "a", 1))},
		{"999999999999999", plain(of(maxNumber))},
		{"000000000000001", plain(of(1))},
		{"000000000000000", plain(of(0))},
		{"a999999999999999", plain(of(0, "a", maxNumber))},
		{"1.123456789012345a1", plain(of(1), of(123456789012345, "a", 1))},
		{"1+999999999999999", local(plain(of(1)), of(maxNumber))},
		{"123456789012345.123456789012345", plain(of(123456789012345), of(123456789012345))},
		// capital letters
		{"1.0RC1", plain(of(1), of(0, "rc", 1))},
		{"1.0Dev", plain(of(1), of(0, "dev"))},
		{"POST", plain(of(0, "post"))},
		{"1!aBc.X+Yz", epoch(1, local(plain(of(0, "abc"), of(0, "x")), of(0, "yz")))},
		{"ABCDEFGHIJKLMNOPQRSTUVWXYZ", plain(of(0, "abcdefghijklmnopqrstuvwxyz"))},
		{"abcdefghijklmnopqrstuvwxyz", plain(of(0, "abcdefghijklmnopqrstuvwxyz"))},
		{"0123456789", plain(of(123456789))},
		// 40 bytes
		{strings.Repeat("a", 40), plain(of(0, strings.Repeat("a", 40)))},
		{"999999999999999!999999999999999+12345678", epoch(maxNumber, local(plain(of(maxNumber)), of(12345678)))},
	} {
		accept(t, x.s, x.want)
		check(t, x.s)
	}
}

func TestP7_1ParseRefuses(t *testing.T) {
	for _, s := range []string{
		"",
		// bytes between components, in front, at the end, two of them
		".", "_", "-", "..", ".1", "_1", "-1", "1.", "1_", "1-", "1..2", "1__2", "1--2", "1._2", "1-.2", "1_-2", ".a", "a.", "a..b",
		// an epoch
		"!", "!1", "1!", "1!!2", "1!2!3", "a!1", "1a!1", "1.0!2", ".!1", "-1!2", "1!.2", "1.!2", "1!2.", "1!+2", "!+", " 1!2", "1 !2", "1! 2", "\u0661!1", "0x1!2", "1_0!2",
		// a local part
		"+", "1+", "+1", "1++2", "1+2+3", "1+2+", "+1+2", "1.+2", "1+.2", "1+2.", "1+2..3", "1+2!3", "1!2+3!4", "1!+", "1+!", "1+_", "1 +2", "1+ 2",
		// 16 digits
		"1000000000000000", "9999999999999999", "0000000000000001", "0000000000000000", "a1000000000000000", "1.0000000000000001", "1.1000000000000000.2", "1a0000000000000001b",
		"1000000000000000!1", "0000000000000001!1", "0000000000000000!1", "1+1000000000000000", "1+0000000000000001", "1+a.b0000000000000000",
		// of more than 64 bits
		"9223372036854775807", "9223372036854775808", "18446744073709551616", "18446744073709551617!1", "99999999999999999999999999999999999999",
		// other bytes
		" ", "1 ", " 1", "1 0", "1.0\n", "\n1", "1\x00", "*", "1.*", "1*", "1,2", "1|2", "=1", "1=", "v 1", "1.0~rc1", "1/2", "1:2", "1@2", "1[", "1{", "1`2", "1:1.0",
		"\xff", "1.\x80", "é", "1.é", "1\u0660", "\uff11", "\u212a", "\u0131", "1\u20242",
		// 41 bytes
		strings.Repeat("a", 41), strings.Repeat("A", 41), strings.Repeat("1.", 20) + "1", "1!" + strings.Repeat("a", 39), "1+" + strings.Repeat("a", 39), "00000!" + strings.Repeat("a.", 17) + "a",
		strings.Repeat("a", 80), strings.Repeat("a", 256), strings.Repeat("a", 296), strings.Repeat("a", 1<<16+1), strings.Repeat("1.", 1<<20),
	} {
		refuse(t, s)
		if _, err := modelParse(s); err == nil {
			t.Errorf("the model reads %q", s)
		}
	}
}

// texts calls f with each text of up to most bytes of an alphabet.
func texts(alphabet string, most int, f func(string)) {
	for _, row := range rowsOf(most, []byte(alphabet)...) {
		f(string(row))
	}
}

func TestP7_1ParseShort(t *testing.T) {
	texts("019aZ._-!+ *", 4, func(s string) { check(t, s) })
	texts("0aB.!+", 6, func(s string) { check(t, s) })
	texts("1b_-+", 6, func(s string) { check(t, s) })
}

// frames are texts of every shape: one of them is changed at one place.
var frames = []string{"1", "a", "1.2", "a_b", "1-a", "1!2", "1!a.2", "1+2", "1!2.a3+4-b5", "00a1b2", "999999999999999", "dev.post", strings.Repeat("b", 39), strings.Repeat("1.", 19) + "1", strings.Repeat("a", 40)}

func TestP7_1ParseEachByte(t *testing.T) {
	for c := range 256 {
		b := string([]byte{byte(c)})
		for _, s := range frames {
			for at := range len(s) + 1 {
				check(t, s[:at]+b+s[at:])
				check(t, s[:at]+b+b+s[at:])
				if at < len(s) {
					check(t, s[:at]+b+s[at+1:])
				}
			}
		}
	}
}

func TestP7_1ParseSizes(t *testing.T) {
	for size := range 45 {
		for _, piece := range []string{"0", "1", "a", "Q", "1.", "a_", "a1", "1a-", "123456789012345.", "12345678901234b"} {
			text := strings.Repeat(piece, 45)
			for _, s := range []string{text[:size], text[len(text)-size:]} {
				for _, front := range []string{"", "1!", "0!", "12345678901!"} {
					for _, behind := range []string{"", "1", "+1", "+local.2", "!1"} {
						check(t, front+s+behind)
					}
				}
			}
		}
	}
}

func TestP7_1ParseDigits(t *testing.T) {
	for many := range 25 {
		for _, digit := range []string{"0", "1", "9"} {
			run := strings.Repeat(digit, many)
			for _, s := range []string{run, run + "!1", "1!" + run, "a" + run, run + "a", "1." + run, run + ".1", "1+" + run, "1+a" + run + "b", strings.TrimSuffix(run, digit) + "7", "0" + run} {
				check(t, s)
			}
		}
	}
}

func TestP7_1ParseAnswersTheCallersOwn(t *testing.T) {
	const s = "1!2.a3_b-4+c5.6"
	want := epoch(1, local(plain(of(2), of(0, "a", 3), of(0, "b"), of(4)), of(0, "c", 5), of(6)))
	first, _ := version.Parse(s)
	second, _ := version.Parse(s)
	spoil(first)
	if !equal(second, want) {
		t.Errorf("%v is spoiled by what was done to another answer", second)
	}
	accept(t, s, want)
	for _, s := range append(frames, s, "1.2.3.4.5.6+7.8.9.10.11", "a1b2c.d3e4f+a1b2c.d3e4f") {
		v, _ := version.Parse(s)
		apart(t, v)
	}
}

func TestP7_1Text(t *testing.T) {
	for _, x := range []struct {
		v    api.Version
		want string
	}{
		{plain(of(0)), "0"},
		{plain(of(7)), "7"},
		{plain(of(1), of(10), of(3)), "1.10.3"},
		{plain(of(0), of(0), of(0)), "0.0.0"},
		// a number 0 in front
		{plain(of(0, "a")), "a"},
		{plain(of(0, "a", 0)), "a0"},
		{plain(of(0, "a", 0, "b")), "a0b"},
		{plain(of(1), of(0, "dev")), "1.dev"},
		{plain(of(1, "a")), "1a"},
		{plain(of(10, "a")), "10a"},
		{plain(of(0, "a"), of(0), of(0, "b")), "a.0.b"},
		{plain(of(0), of(0, "post", 1)), "0.post1"},
		{plain(of(1), of(0, "a", 1, "b", 2, "c")), "1.a1b2c"},
		// an epoch
		{epoch(1, plain(of(2))), "1!2"},
		{epoch(1, plain(of(0, "a"))), "1!a"},
		{epoch(10, plain(of(0))), "10!0"},
		{epoch(maxNumber, plain(of(maxNumber))), "999999999999999!999999999999999"},
		// a local part
		{local(plain(of(1)), of(2)), "1+2"},
		{local(plain(of(1)), of(0)), "1+0"},
		{local(plain(of(1)), of(0, "a")), "1+a"},
		{local(plain(of(0, "a")), of(0, "b", 1), of(2, "c"), of(0)), "a+b1.2c.0"},
		{epoch(3, local(plain(of(1), of(0, "rc", 1)), of(0, "cu", 118), of(0, "x"))), "3!1.rc1+cu118.x"},
		{api.Version{Parts: parts(of(1)), Local: parts()}, "1"},
		// more than MaxVersion bytes
		{plain(of(0, strings.Repeat("a", 41))), strings.Repeat("a", 41)},
		{epoch(maxNumber, local(plain(of(maxNumber)), of(maxNumber))), "999999999999999!999999999999999+999999999999999"},
	} {
		if got := version.Text(x.v); got != x.want {
			t.Errorf("Text(%v) answers %q, not %q", x.v, got, x.want)
		}
		if !version.Right(x.v) || modelText(x.v) != x.want {
			t.Errorf("%v isn't Right, or the model writes %q", x.v, modelText(x.v))
		}
		again, err := version.Parse(x.want)
		if long := len(x.want) > 40; long != (err != nil) || !long && !equal(again, x.v) {
			t.Errorf("%q is read as %v, %v", x.want, again, err)
		}
	}
}

func TestP7_2TextOfWhatWasRead(t *testing.T) {
	for s, want := range map[string]string{
		"1.10.3":                    "1.10.3",
		"0!1":                       "1",
		"00!1":                      "1",
		"01!1":                      "1!1",
		"1_2-3.4":                   "1.2.3.4",
		"01.002.000":                "1.2.0",
		"1.0DEV":                    "1.dev",
		"1.0a01":                    "1.a1",
		"1.00a":                     "1.a",
		"1.a":                       "1.a",
		"1a0":                       "1a0",
		"1a00b":                     "1a0b",
		"2!A_0b+0C-00.1":            "2!a.b+c.0.1",
		"1+0":                       "1+0",
		"1+L":                       "1+l",
		"999999999999999!0a+00000x": "999999999999999!a+x",
	} {
		v, err := version.Parse(s)
		if err != nil || version.Text(v) != want {
			t.Errorf("the text of what %q is read as is %q (%v), not %q", s, version.Text(v), err, want)
		}
		again, err := version.Parse(want)
		if err != nil || !equal(v, again) {
			t.Errorf("%q is read as %v, %q as %v", s, v, want, again)
		}
	}
}

// Many items, components and digits of the Right kind, however long the text becomes.
func TestP7_1TextAndRightOfLong(t *testing.T) {
	many := of(0)
	var row [][]api.Item
	for i := range 50000 {
		many = append(many, of("a", i)...)
		row = append(row, of(i, "b"))
	}
	for _, v := range []api.Version{plain(many), {Parts: row}, {Epoch: 5, Parts: row, Local: parts(many, of(1))}, plain(of(0, strings.Repeat("x", 1<<20)))} {
		if !version.Right(v) {
			t.Error("a long version isn't Right")
		}
		if version.Text(v) != modelText(v) {
			t.Error("a long version's text isn't what it should be")
		}
		refuse(t, version.Text(v))
	}
	if version.Right(plain(append(many, of(1)...))) || version.Right(plain(of(0, strings.Repeat("x", 1<<20)+"X"))) || version.Right(api.Version{Parts: append(row, of("b"))}) {
		t.Error("a long version that no text has is Right")
	}
}

func checkRight(t *testing.T, v api.Version) {
	t.Helper()
	want := modelRight(v)
	if got := version.Right(v); got != want {
		t.Errorf("Right(%v) answers %v", v, got)
	}
	if text := version.Text(v); want && text != modelText(v) {
		t.Errorf("Text(%v) answers %q", v, text)
	}
}

func TestP7_1Right(t *testing.T) {
	for _, x := range []struct {
		v    api.Version
		want bool
	}{
		{plain(of(0)), true},
		{plain(of(1), of(0, "a", 1, "b"), of(2)), true},
		{epoch(1, local(plain(of(1)), of(0, "b"), of(3))), true},
		{api.Version{Parts: parts(of(1)), Local: parts()}, true},
		{plain(slices15()...), true},
		// components
		{api.Version{}, false},
		{api.Version{Parts: parts()}, false},
		{epoch(1, api.Version{}), false},
		{api.Version{Local: parts(of(1))}, false},
		{plain(nil), false},
		{plain(of(1), nil), false},
		{plain(nil, of(1)), false},
		{plain(of(1), []api.Item{}, of(2)), false},
		{local(plain(of(1)), nil), false},
		{local(plain(of(1)), of(1), nil), false},
		// an epoch
		{epoch(-1, plain(of(1))), false},
		{epoch(math.MinInt, plain(of(1))), false},
		{epoch(maxNumber, plain(of(1))), true},
		{epoch(maxNumber+1, plain(of(1))), false},
		{epoch(math.MaxInt, plain(of(1))), false},
		{epoch(1<<32, plain(of(1))), true},
		// numbers
		{plain(of(-1)), false},
		{plain(of(math.MinInt)), false},
		{plain(of(maxNumber)), true},
		{plain(of(maxNumber + 1)), false},
		{plain(of(math.MaxInt)), false},
		{plain(of(1, "a", -1)), false},
		{plain(of(1, "a", maxNumber+1)), false},
		{plain(of(1, "a", maxNumber)), true},
		{local(plain(of(1)), of(-1)), false},
		{local(plain(of(1)), of(maxNumber+1)), false},
		{local(plain(of(1)), of(maxNumber)), true},
		// a number in front, then by turns
		{plain(of("a")), false},
		{plain(of(0, "a")), true},
		{plain(of("a", 1)), false},
		{plain(of(1, 2)), false},
		{plain(of(0, 0)), false},
		{plain(of(0, "a", "b")), false},
		{plain(of(0, "a", 1, 2)), false},
		{plain(of(0, "a", 1, "b", "c")), false},
		{plain(of(1), of("a")), false},
		{local(plain(of(1)), of("a")), false},
		{local(plain(of(1)), of(0, "a", "b")), false},
		{local(plain(of(1)), of(1, 2)), false},
		// words
		{plain(of(0, "")), false}, // this is the number 0
		{plain(of(0, "A")), false},
		{plain(of(0, "aB")), false},
		{plain(of(0, "DEV")), false},
		{plain(of(0, "a1")), false},
		{plain(of(0, "1")), false},
		{plain(of(0, "1a")), false},
		{plain(of(0, "a.b")), false},
		{plain(of(0, "a_")), false},
		{plain(of(0, "-")), false},
		{plain(of(0, "a+b")), false},
		{plain(of(0, "!")), false},
		{plain(of(0, " ")), false},
		{plain(of(0, "a\x00")), false},
		{plain(of(0, "é")), false},
		{plain(of(0, "\xff")), false},
		{plain(of(0, "`")), false},
		{plain(of(0, "{")), false},
		{plain(of(0, "az")), true},
		{local(plain(of(1)), of(0, "A")), false},
		{local(plain(of(1)), of(0, "a-b")), false},
		// a number beside a word
		{plain(of(0, api.Item{N: 1, Word: "a"})), false},
		{plain(of(0, api.Item{N: -1, Word: "a"})), false},
		{plain(of(api.Item{N: 1, Word: "a"})), false},
		{local(plain(of(1)), of(0, api.Item{N: 1, Word: "a"})), false},
	} {
		if got := version.Right(x.v); got != x.want {
			t.Errorf("Right(%v) answers %v", x.v, got)
		}
		if modelRight(x.v) != x.want {
			t.Errorf("the model says %v of %v", !x.want, x.v)
		}
	}
}

// slices15 are components of 1 to 15 digits.
func slices15() [][]api.Item {
	var row [][]api.Item
	for n := 1; n <= maxNumber; n *= 10 {
		row = append(row, of(n), of(n, "a", n*10-1))
	}
	return row
}

func TestP7_1RightOfEachByte(t *testing.T) {
	for c := range 256 {
		b := string([]byte{byte(c)})
		for _, word := range []string{b, b + b, "a" + b, b + "a", "a" + b + "z"} {
			checkRight(t, plain(of(0, word)))
			checkRight(t, plain(of(word)))
			checkRight(t, local(plain(of(3), of(0, word, 4)), of(0), of(1, word)))
		}
	}
}

func TestP7_1RightOfSmall(t *testing.T) {
	for _, component := range rowsOf(3, oddItems()...) {
		checkRight(t, plain(component))
		checkRight(t, plain(of(1), component))
		checkRight(t, epoch(3, plain(component, of(0, "a"))))
		checkRight(t, local(plain(of(0)), component))
		checkRight(t, local(plain(of(0)), of(2, "b"), component))
	}
	few := rowsOf(3, of(0, 10, "a", "dev")...)
	for _, first := range few {
		for _, second := range few {
			checkRight(t, plain(first, second))
			checkRight(t, epoch(10, local(plain(first), second)))
		}
	}
	for _, n := range []int{math.MinInt, -1 << 32, -maxNumber, -1, 0, 1, 9, 10, 1<<31 - 1, 1 << 31, 1<<32 + 1, maxNumber - 1, maxNumber, maxNumber + 1, 1 << 60, math.MaxInt} {
		checkRight(t, epoch(n, plain(of(1))))
		checkRight(t, plain(of(n)))
		checkRight(t, plain(of(n, "a", n)))
		checkRight(t, local(plain(of(1)), of(0, "a", n)))
	}
}

func TestP7_1EveryCallEnds(t *testing.T) {
	for _, v := range oddVersions() {
		checkRight(t, v)
		version.Text(v)
		version.Shorter(v)
		for _, w := range oddVersions() {
			version.Begins(v, w)
		}
	}
	version.Newest(oddVersions()...)
	for _, n := range []int{0, 1, 40, 41, 1 << 16, 1 << 22} {
		for _, piece := range []string{"1", ".", "!", "+", "a", "\xff"} {
			version.Parse(strings.Repeat(piece, n))
		}
	}
	if _, err := version.Parse(strconv.Itoa(math.MaxInt)); err != api.ErrVersion {
		t.Errorf("a number of 19 digits is answered by %v", err)
	}
}
