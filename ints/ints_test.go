package ints_test

import (
	"math"
	"math/big"
	"regexp"
	"strings"
	"testing"

	"haversack/api"
	"haversack/ints"
)

// grammar says anew, in a pattern, what a number's text is: its second group is what makes it one that isn't whole.
var grammar = regexp.MustCompile(`^(-?(?:0|[1-9][0-9]*))((?:\.[0-9]+)?(?:[eE][+-]?[0-9]+)?)`)

func init() { grammar.Longest() }

// taken is what Take should answer.
func taken(s string, at int) (n, size int, err error) {
	if at < 0 || at > len(s) {
		return 0, 0, api.ErrSyntax
	}
	m := grammar.FindStringSubmatch(s[at:])
	if m == nil {
		return 0, 0, api.ErrSyntax
	}
	v, _ := new(big.Int).SetString(m[1], 10)
	if m[2] != "" || !v.IsInt64() {
		return 0, 0, api.ErrNumber
	}
	return int(v.Int64()), len(m[0]), nil
}

// parsed is what Parse should answer.
func parsed(s string) (int, error) {
	if m := grammar.FindString(s); m == "" || m != s {
		return 0, api.ErrSyntax
	}
	n, _, err := taken(s, 0)
	return n, err
}

func checkTake(t *testing.T, s string, at int) {
	t.Helper()
	n, size, err := ints.Take(s, at)
	if wn, wsize, werr := taken(s, at); n != wn || size != wsize || err != werr {
		t.Errorf("Take(%q, %d) answers %d, %d, %v, not %d, %d, %v", s, at, n, size, err, wn, wsize, werr)
	}
}

func checkParse(t *testing.T, s string) {
	t.Helper()
	n, err := ints.Parse(s)
	if wn, werr := parsed(s); n != wn || err != werr {
		t.Errorf("Parse(%q) answers %d, %v, not %d, %v", s, n, err, wn, werr)
	}
}

// short calls f with each text of up to most bytes of an alphabet.
func short(alphabet string, most int, f func(string)) {
	var grow func(s string)
	grow = func(s string) {
		f(s)
		if len(s) == most {
			return
		}
		for i := range len(alphabet) {
			grow(s + alphabet[i:i+1])
		}
	}
	grow("")
}

// numbers are such as stand at an edge of something.
func numbers() []int {
	list := []int{0, math.MaxInt, math.MinInt, math.MaxInt - 1, math.MinInt + 1}
	for shift := range 63 {
		n := 1 << shift
		list = append(list, n-1, n, n+1, -n+1, -n, -n-1)
	}
	for n := 1; n <= math.MaxInt/10; n *= 10 {
		list = append(list, n*10-1, n*10, -n*10, 1-n*10)
	}
	return list
}

func TestP2_1TakeOfTexts(t *testing.T) {
	for _, c := range []struct {
		s       string
		at      int
		n, size int
		err     error
	}{
		{"12,", 0, 12, 2, nil},
		{"1.5", 0, 0, 0, api.ErrNumber},
		{"01", 0, 0, 1, nil},
		{"01", 1, 1, 1, nil},
		{"00", 0, 0, 1, nil},
		{"-01", 0, 0, 2, nil},
		{"-0", 0, 0, 2, nil},
		{"-0", 1, 0, 1, nil},
		{"-12]", 0, -12, 3, nil},
		{"a-7", 1, -7, 2, nil},
		{"0.", 0, 0, 1, nil},
		{"12.", 0, 12, 2, nil},
		{"12.x", 0, 12, 2, nil},
		{"12.e5", 0, 12, 2, nil},
		{"12.-5", 0, 12, 2, nil},
		{"12e", 0, 12, 2, nil},
		{"12E", 0, 12, 2, nil},
		{"12e+", 0, 12, 2, nil},
		{"12E-", 0, 12, 2, nil},
		{"12e+-1", 0, 12, 2, nil},
		{"12e.5", 0, 12, 2, nil},
		{"12ee5", 0, 12, 2, nil},
		{"12f5", 0, 12, 2, nil},
		{"12+5", 0, 12, 2, nil},
		{"12-5", 0, 12, 2, nil},
		{"12\x005", 0, 12, 2, nil},
		{"12\xff", 0, 12, 2, nil},
		{"12.0", 0, 0, 0, api.ErrNumber},
		{"12.0e", 0, 0, 0, api.ErrNumber},
		{"12e0", 0, 0, 0, api.ErrNumber},
		{"12E0", 0, 0, 0, api.ErrNumber},
		{"12e+0", 0, 0, 0, api.ErrNumber},
		{"12e-00", 0, 0, 0, api.ErrNumber},
		{"-0.0", 0, 0, 0, api.ErrNumber},
		{"0e1", 0, 0, 0, api.ErrNumber},
		{"00.5", 0, 0, 1, nil},
		{"9223372036854775808e", 0, 0, 0, api.ErrNumber},
		{"", 0, 0, 0, api.ErrSyntax},
		{"-", 0, 0, 0, api.ErrSyntax},
		{"--1", 0, 0, 0, api.ErrSyntax},
		{"--1", 1, -1, 2, nil},
		{"+1", 0, 0, 0, api.ErrSyntax},
		{" 1", 0, 0, 0, api.ErrSyntax},
		{".5", 0, 0, 0, api.ErrSyntax},
		{"-.5", 0, 0, 0, api.ErrSyntax},
		{"e5", 0, 0, 0, api.ErrSyntax},
		{"-e5", 0, 0, 0, api.ErrSyntax},
		{"NaN", 0, 0, 0, api.ErrSyntax},
		{"/", 0, 0, 0, api.ErrSyntax},
		{":", 0, 0, 0, api.ErrSyntax},
		{"1_0", 0, 1, 1, nil},
		{"0x10", 0, 0, 1, nil},
		{"\u0661", 0, 0, 0, api.ErrSyntax}, // a digit, but of another script
	} {
		n, size, err := ints.Take(c.s, c.at)
		if n != c.n || size != c.size || err != c.err {
			t.Errorf("Take(%q, %d) answers %d, %d, %v, not %d, %d, %v", c.s, c.at, n, size, err, c.n, c.size, c.err)
		}
	}
}

func TestP2_1TakeOutsideOfTheText(t *testing.T) {
	for _, s := range []string{"", "7", "12", "12.5e3"} {
		for _, at := range []int{-1, -2, math.MinInt, len(s), len(s) + 1, len(s) + 2, 1 << 32, math.MaxInt - 1, math.MaxInt} {
			if n, size, err := ints.Take(s, at); n != 0 || size != 0 || err != api.ErrSyntax {
				t.Errorf("Take(%q, %d) answers %d, %d, %v", s, at, n, size, err)
			}
		}
	}
}

func TestP2_1TakeAndParseOfEachShortText(t *testing.T) {
	short("-+019.eEx", 5, func(s string) {
		for at := -1; at <= len(s)+1; at++ {
			checkTake(t, s, at)
		}
		checkParse(t, s)
	})
	short("-1.e", 9, func(s string) {
		checkTake(t, s, 0)
		checkParse(t, s)
	})
}

func TestP2_1EachByteBehindAndInFront(t *testing.T) {
	for b := range 256 {
		c := string([]byte{byte(b)})
		for _, s := range []string{c, c + "12", "12" + c, "0" + c, "-" + c, "1" + c + "2", "1." + c, "1e" + c, "1e" + c + "1", "1.5" + c, "1.5" + c + "1"} {
			checkTake(t, s, 0)
			checkParse(t, s)
		}
	}
}

func TestP2_1BoundsOf64Bits(t *testing.T) {
	for _, c := range []struct {
		s   string
		n   int
		err error
	}{
		{"9223372036854775806", math.MaxInt - 1, nil},
		{"9223372036854775807", math.MaxInt, nil},
		{"9223372036854775808", 0, api.ErrNumber},
		{"-9223372036854775807", -math.MaxInt, nil},
		{"-9223372036854775808", math.MinInt, nil},
		{"-9223372036854775809", 0, api.ErrNumber},
		{"10000000000000000000", 0, api.ErrNumber},
		{"18446744073709551616", 0, api.ErrNumber}, // 2^64, that is 0 in 64 bits
		{"18446744073709551617", 0, api.ErrNumber},
		{"-18446744073709551617", 0, api.ErrNumber},
		{"1" + strings.Repeat("0", 5000), 0, api.ErrNumber},
		{"-" + strings.Repeat("9", 5000), 0, api.ErrNumber},
	} {
		if n, err := ints.Parse(c.s); n != c.n || err != c.err {
			t.Errorf("Parse(%q) answers %d, %v, not %d, %v", c.s, n, err, c.n, c.err)
		}
		size := len(c.s)
		if c.err != nil {
			size = 0
		}
		if n, got, err := ints.Take("["+c.s+"]", 1); n != c.n || got != size || err != c.err {
			t.Errorf("Take of %q answers %d, %d, %v, not %d, %d, %v", c.s, n, got, err, c.n, size, c.err)
		}
	}
}

func TestP2_1ParseOfTexts(t *testing.T) {
	for _, c := range []struct {
		s   string
		n   int
		err error
	}{
		{"0", 0, nil}, {"-0", 0, nil}, {"7", 7, nil}, {"-7", -7, nil}, {"1024", 1024, nil},
		{"01", 0, api.ErrSyntax}, {"-01", 0, api.ErrSyntax}, {"00", 0, api.ErrSyntax}, {"01.5", 0, api.ErrSyntax},
		{"", 0, api.ErrSyntax}, {"-", 0, api.ErrSyntax}, {"+1", 0, api.ErrSyntax}, {" 1", 0, api.ErrSyntax}, {"1 ", 0, api.ErrSyntax},
		{"12,", 0, api.ErrSyntax}, {"1.", 0, api.ErrSyntax}, {"1e", 0, api.ErrSyntax}, {"1e+", 0, api.ErrSyntax}, {"1.5e-", 0, api.ErrSyntax},
		{"1.5,", 0, api.ErrSyntax}, {"1.5.5", 0, api.ErrSyntax}, {"1e5e5", 0, api.ErrSyntax}, {"1e5.5", 0, api.ErrSyntax},
		{"9223372036854775808x", 0, api.ErrSyntax},
		{"1.5", 0, api.ErrNumber}, {"1.0", 0, api.ErrNumber}, {"1e0", 0, api.ErrNumber}, {"-1.50E+007", 0, api.ErrNumber},
	} {
		if n, err := ints.Parse(c.s); n != c.n || err != c.err {
			t.Errorf("Parse(%q) answers %d, %v, not %d, %v", c.s, n, err, c.n, c.err)
		}
	}
}

func TestP2_1Text(t *testing.T) {
	for n, want := range map[int]string{
		0: "0", 7: "7", -7: "-7", 10: "10", 1000000: "1000000", -100: "-100",
		math.MaxInt: "9223372036854775807", math.MinInt: "-9223372036854775808",
	} {
		if s := ints.Text(n); s != want {
			t.Errorf("Text(%d) answers %q", n, s)
		}
	}
	for _, n := range numbers() {
		if s := ints.Text(n); s != big.NewInt(int64(n)).String() {
			t.Errorf("Text(%d) answers %q", n, s)
		}
	}
}

func TestP2_1Small(t *testing.T) {
	const top = 999999999999999
	for _, c := range []struct {
		s       string
		most, n int
		ok      bool
	}{
		{"0", 0, 0, true}, {"0", 9, 0, true}, {"000", 0, 0, true}, {"0", -1, 0, false},
		{"7", 7, 7, true}, {"7", 8, 7, true}, {"7", 6, 0, false}, {"8", 7, 0, false}, {"7", -1, 0, false},
		{"007", 7, 7, true}, {"008", 7, 0, false}, {"1000000", 1000000, 1000000, true}, {"1000001", 1000000, 0, false},
		{"999999999999999", top, top, true}, {"999999999999999", top - 1, 0, false}, {"999999999999999", math.MaxInt, top, true},
		{"100000000000000", math.MaxInt, 100000000000000, true}, {"1000000000000000", math.MaxInt, 0, false},
		{"000000000000000", math.MaxInt, 0, true}, {"000000000000001", 1, 1, true},
		{"0000000000000000", math.MaxInt, 0, false}, {"0000000000000001", math.MaxInt, 0, false}, {"9999999999999999", math.MaxInt, 0, false},
		{"9223372036854775807", math.MaxInt, 0, false}, {strings.Repeat("0", 5000), math.MaxInt, 0, false},
		{"", math.MaxInt, 0, false}, {"-", math.MaxInt, 0, false}, {"-1", math.MaxInt, 0, false}, {"-0", math.MaxInt, 0, false}, {"+1", math.MaxInt, 0, false},
		{" 1", math.MaxInt, 0, false}, {"1 ", math.MaxInt, 0, false}, {"1.0", math.MaxInt, 0, false}, {"1e1", math.MaxInt, 0, false},
		{"x1", math.MaxInt, 0, false}, {"1x", math.MaxInt, 0, false}, {"1_0", math.MaxInt, 0, false}, {"0x1", math.MaxInt, 0, false}, {"\u0661", math.MaxInt, 0, false},
		{"12", math.MinInt, 0, false}, {"0", math.MinInt, 0, false},
	} {
		if n, ok := ints.Small(c.s, c.most); n != c.n || ok != c.ok {
			t.Errorf("Small(%q, %d) answers %d, %v, not %d, %v", c.s, c.most, n, ok, c.n, c.ok)
		}
	}
}

func TestP2_1SmallOfEachShortText(t *testing.T) {
	digits := regexp.MustCompile(`^[0-9]{1,15}$`)
	short("019-+.e/:", 5, func(s string) {
		value := 0
		if digits.MatchString(s) {
			v, _ := new(big.Int).SetString(s, 10)
			value = int(v.Int64())
		}
		for _, most := range []int{-1, 0, 1, value - 1, value, value + 1, math.MaxInt} {
			want := digits.MatchString(s) && value <= most
			n, ok := ints.Small(s, most)
			if ok != want || ok && n != value || !ok && n != 0 {
				t.Errorf("Small(%q, %d) answers %d, %v", s, most, n, ok)
			}
		}
	})
}

func TestP2_1SmallOfEachByte(t *testing.T) {
	for b := range 256 {
		c := string([]byte{byte(b)})
		digit := '0' <= b && b <= '9'
		for _, s := range []string{c, c + "1", "1" + c} {
			if n, ok := ints.Small(s, math.MaxInt); ok != digit || !ok && n != 0 {
				t.Errorf("Small(%q) answers %d, %v", s, n, ok)
			}
		}
	}
}

func TestP2_2ParseOfTextIsTheNumber(t *testing.T) {
	check := func(n int) {
		s := ints.Text(n)
		if got, err := ints.Parse(s); got != n || err != nil {
			t.Errorf("Parse of Text(%d), %q, answers %d, %v", n, s, got, err)
		}
		if got, size, err := ints.Take(s+"e", 0); got != n || size != len(s) || err != nil {
			t.Errorf("Take of Text(%d), %q, answers %d, %d, %v", n, s, got, size, err)
		}
	}
	for n := -100000; n <= 100000; n++ {
		check(n)
	}
	for _, n := range numbers() {
		check(n)
	}
}
