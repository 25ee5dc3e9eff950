package runes_test

import (
	"fmt"
	"math"
	"slices"
	"testing"

	"haversack/api"
	"haversack/runes"
)

// isPoint, bytesOf and table say anew, in the chapter's words, what a code point and its bytes are: the tests hold the package against them.

func isPoint(r int) bool {
	return 0 <= r && r <= 55295 || 57344 <= r && r <= 1114111
}

func bytesOf(r int) string {
	more := func(shift int) byte { return byte(128 + r>>shift%64) }
	switch {
	case r <= 127:
		return string([]byte{byte(r)})
	case r <= 2047:
		return string([]byte{byte(192 + r>>6), more(0)})
	case r <= 65535:
		return string([]byte{byte(224 + r>>12), more(6), more(0)})
	}
	return string([]byte{byte(240 + r>>18), more(12), more(6), more(0)})
}

func table() map[string]int {
	t := make(map[string]int, 1114112)
	for r := 0; r <= 1114111; r++ {
		if isPoint(r) {
			t[bytesOf(r)] = r
		}
	}
	return t
}

// decoded is what Decode should answer: no code point's bytes are the beginning of another's, so the first size that fits is the one.
func decoded(t map[string]int, s string, at int) (int, int, bool) {
	if at < 0 || at > len(s) {
		return 0, 0, false
	}
	for size := 1; size <= 4 && size <= len(s)-at; size++ {
		if r, ok := t[s[at:at+size]]; ok {
			return r, size, true
		}
	}
	return 0, 0, false
}

// edges are the code points at both sides of each bound of the chapter.
func edges() []int {
	return []int{0, 1, 65, 127, 128, 233, 2047, 2048, 8364, 55295, 57344, 65533, 65534, 65535, 65536, 128512, 1114110, 1114111}
}

// strangers are numbers that are no code points; some would be one if they lost their upper 32 bits.
func strangers() []int {
	return []int{-1, -65, 55296, 56319, 56320, 57343, 1114112, 1114113, math.MaxInt32, math.MinInt32, 1 << 32, 1<<32 + 65, -1<<32 + 65, math.MaxInt, math.MinInt}
}

// broken are texts that no code point's bytes begin.
func broken() []string {
	return []string{
		"", "\x80", "\xbf", "\xfe", "\xff",
		"\xc3", "\xe2", "\xe2\x82", "\xf0", "\xf0\x9f", "\xf0\x9f\x98", // they end too early
		"\xc3a", "\xc3\xc3", "\xe2a\x82", "\xe2\x82a", "\xf0a\x98\x80", "\xf0\x9fa\x80", "\xf0\x9f\x98a", "\xf0\x9f\x98\xc0",
		"\xc0\x80", "\xc0\xaf", "\xc1\xbf", "\xe0\x80\x80", "\xe0\x81\xbf", "\xe0\x9f\xbf", "\xf0\x80\x80\x80", "\xf0\x82\x82\xac", "\xf0\x8f\xbf\xbf", // they could be shorter
		"\xed\xa0\x80", "\xed\xaf\xbf", "\xed\xb0\x80", "\xed\xbf\xbf", "\xed\xa0\xbd\xed\xb8\x80", // surrogates
		"\xf4\x90\x80\x80", "\xf5\x80\x80\x80", "\xf7\xbf\xbf\xbf", "\xf8\x88\x80\x80\x80", "\xfc\x84\x80\x80\x80\x80", // above 1114111
	}
}

func checkDecode(t *testing.T, points map[string]int, s string, at int) {
	t.Helper()
	r, size, ok := runes.Decode(s, at)
	if wr, wsize, wok := decoded(points, s, at); r != wr || size != wsize || ok != wok {
		t.Fatalf("Decode(%q, %d) answers %d, %d, %v; want %d, %d, %v", s, at, r, size, ok, wr, wsize, wok)
	}
}

func TestP1_1DecodeEveryPoint(t *testing.T) {
	for r := 0; r <= 1114111; r++ {
		if !isPoint(r) {
			continue
		}
		b := bytesOf(r)
		if got, size, ok := runes.Decode("\xff"+b+"\xbf", 1); got != r || size != len(b) || !ok {
			t.Fatalf("Decode of %d's bytes answers %d, %d, %v", r, got, size, ok)
		}
	}
}

func TestP1_1DecodeEveryShortText(t *testing.T) {
	points := table()
	checkDecode(t, points, "", 0)
	for a := range 256 {
		checkDecode(t, points, string([]byte{byte(a)}), 0)
		for b := range 256 {
			checkDecode(t, points, string([]byte{byte(a), byte(b)}), 0)
		}
	}
	for a := 0xe0; a <= 0xff; a++ {
		for b := range 256 {
			for c := range 256 {
				checkDecode(t, points, string([]byte{byte(a), byte(b), byte(c)}), 0)
			}
		}
	}
}

func TestP1_1DecodeLongestTexts(t *testing.T) {
	points := table()
	behind := []byte{0, 'a', 0x7f, 0x80, 0x81, 0xbe, 0xbf, 0xc0, 0xff}
	for a := 0xef; a <= 0xff; a++ {
		for b := range 256 {
			for _, c := range behind {
				for _, d := range behind {
					checkDecode(t, points, string([]byte{byte(a), byte(b), c, d}), 0)
				}
			}
		}
	}
}

func TestP1_1DecodePlaces(t *testing.T) {
	points := table()
	for _, s := range []string{"", "a", "a\xc3\xa9\xe2\x82\xac\xf0\x9f\x98\x80z", "\xef\xbf\xbd\xff"} {
		for at := -2; at <= len(s)+2; at++ {
			checkDecode(t, points, s, at)
		}
		for _, at := range []int{math.MinInt, math.MaxInt, 1 << 32} {
			checkDecode(t, points, s, at)
		}
	}
	for _, s := range broken() {
		if r, size, ok := runes.Decode("a"+s, 1); r != 0 || size != 0 || ok {
			t.Errorf("Decode(%q, 1) answers %d, %d, %v", "a"+s, r, size, ok)
		}
	}
}

func TestP1_1Encode(t *testing.T) {
	for r := -3; r <= 1114115; r++ {
		want, wok := "", false
		if isPoint(r) {
			want, wok = bytesOf(r), true
		}
		if got, ok := runes.Encode(r); got != want || ok != wok {
			t.Fatalf("Encode(%d) answers %q, %v; want %q, %v", r, got, ok, want, wok)
		}
	}
	for _, r := range strangers() {
		if s, ok := runes.Encode(r); s != "" || ok {
			t.Errorf("Encode(%d) answers %q, %v", r, s, ok)
		}
	}
	if s, _ := runes.Encode(8364); s != "\xe2\x82\xac" {
		t.Errorf("Encode(8364) answers %q", s)
	}
}

func TestP1_1ValidAndPoints(t *testing.T) {
	if p, ok := runes.Points(""); !runes.Valid("") || len(p) != 0 || !ok {
		t.Errorf("the empty text: Points answers %v, %v", p, ok)
	}
	for _, a := range edges() {
		for _, b := range edges() {
			s := bytesOf(a) + bytesOf(b) + "z"
			p, ok := runes.Points(s)
			if !runes.Valid(s) || !ok || !slices.Equal(p, []int{a, b, 'z'}) {
				t.Errorf("%q: Valid answers %v, Points %v, %v", s, runes.Valid(s), p, ok)
			}
		}
	}
	for _, bad := range broken()[1:] {
		for _, s := range []string{bad, "a" + bad, bad + "a", "\xc3\xa9" + bad + "\xe2\x82\xac"} {
			if p, ok := runes.Points(s); runes.Valid(s) || p != nil || ok {
				t.Errorf("%q: Valid answers %v, Points %v, %v", s, runes.Valid(s), p, ok)
			}
		}
	}
}

func TestP1_1Text(t *testing.T) {
	if s, err := runes.Text(); s != "" || err != nil {
		t.Errorf("Text of none answers %q, %v", s, err)
	}
	if s, err := runes.Text(97, 233, 8364, 128512); s != "a\xc3\xa9\xe2\x82\xac\xf0\x9f\x98\x80" || err != nil {
		t.Errorf("Text answers %q, %v", s, err)
	}
	list := edges()
	s, err := runes.Text(list...)
	if p, ok := runes.Points(s); err != nil || !ok || !slices.Equal(p, edges()) {
		t.Errorf("Text of all edges answers %q, %v", s, err)
	}
	if !slices.Equal(list, edges()) {
		t.Error("Text changes what it is handed")
	}
	for _, r := range edges() {
		if s, err := runes.Text(r); s != bytesOf(r) || err != nil {
			t.Errorf("Text(%d) answers %q, %v", r, s, err)
		}
	}
	for _, r := range strangers() {
		for _, list := range [][]int{{r}, {r, 97}, {97, r}, {97, r, 98}, {r, r}} {
			if s, err := runes.Text(list...); s != "" || err != api.ErrRange {
				t.Errorf("Text(%v) answers %q, %v", list, s, err)
			}
		}
	}
}

func TestP1_1HexEveryNumber(t *testing.T) {
	for n := range 65536 {
		small, capital := fmt.Sprintf("%04x", n), fmt.Sprintf("%04X", n)
		for _, s := range []string{small, capital, small[:2] + capital[2:], capital[:1] + small[1:]} {
			if got, ok := runes.Hex(s, 0); got != n || !ok {
				t.Fatalf("Hex(%q, 0) answers %d, %v", s, got, ok)
			}
			if got, ok := runes.Hex("g"+s+"0", 1); got != n || !ok {
				t.Fatalf("Hex(%q, 1) answers %d, %v", "g"+s+"0", got, ok)
			}
		}
	}
}

func TestP1_1HexEveryByte(t *testing.T) {
	value := func(b int) int { return slices.Index([]byte("0123456789abcdefABCDEF"), byte(b)) }
	for place := range 4 {
		for b := range 256 {
			s := []byte("1111")
			s[place] = byte(b)
			want, wok := 0, false
			if v := value(b); v >= 0 {
				if v > 15 {
					v -= 6
				}
				want, wok = 0x1111+(v-1)<<(12-4*place), true
			}
			if got, ok := runes.Hex(string(s), 0); got != want || ok != wok {
				t.Errorf("Hex(%q, 0) answers %d, %v; want %d, %v", s, got, ok, want, wok)
			}
		}
	}
}

func TestP1_1HexPlaces(t *testing.T) {
	for _, at := range []int{math.MinInt, -5, -4, -1, 3, 4, 6, 7, 1 << 32, math.MaxInt - 3, math.MaxInt} {
		if n, ok := runes.Hex("00e9ab", at); n != 0 || ok {
			t.Errorf("Hex at %d answers %d, %v", at, n, ok)
		}
	}
	if n, ok := runes.Hex("00e9ab", 2); n != 0xe9ab || !ok {
		t.Errorf("Hex at the last place answers %d, %v", n, ok)
	}
	for _, s := range []string{"", "1", "123", "0x12", "+123", "-123", " 123", "1_23", "12 3", "\xef\xbc\x91"} {
		if n, ok := runes.Hex(s, 0); n != 0 || ok {
			t.Errorf("Hex(%q, 0) answers %d, %v", s, n, ok)
		}
	}
}

func TestP1_1JoinAndSplit(t *testing.T) {
	want := 65536
	for high := 55296; high <= 56319; high++ {
		for low := 56320; low <= 57343; low++ {
			if r, ok := runes.Join(high, low); r != want || !ok {
				t.Fatalf("Join(%d, %d) answers %d, %v; want %d", high, low, r, ok, want)
			}
			if h, l, ok := runes.Split(want); h != high || l != low || !ok {
				t.Fatalf("Split(%d) answers %d, %d, %v; want %d, %d", want, h, l, ok, high, low)
			}
			want++
		}
	}
	if want != 1114112 {
		t.Errorf("the pairs end ahead of %d", want)
	}
}

func TestP1_1JoinOfOthers(t *testing.T) {
	notHigh := []int{math.MinInt, -55296, -1, 0, 55295, 56320, 57343, 57344, 1<<32 + 55296, math.MaxInt}
	notLow := []int{math.MinInt, -56320, -1, 0, 55296, 56319, 57344, 1<<32 + 56320, math.MaxInt}
	refuse := func(high, low int) {
		if r, ok := runes.Join(high, low); r != 0 || ok {
			t.Errorf("Join(%d, %d) answers %d, %v", high, low, r, ok)
		}
	}
	for _, high := range notHigh {
		refuse(high, 56320)
		refuse(high, 57343)
		for _, low := range notLow {
			refuse(high, low)
		}
	}
	for _, low := range notLow {
		refuse(55296, low)
		refuse(56319, low)
	}
}

func TestP1_1SplitOfOthers(t *testing.T) {
	for r := -3; r < 65536; r++ {
		if h, l, ok := runes.Split(r); h != 0 || l != 0 || ok {
			t.Fatalf("Split(%d) answers %d, %d, %v", r, h, l, ok)
		}
	}
	for _, r := range strangers() {
		if h, l, ok := runes.Split(r); h != 0 || l != 0 || ok {
			t.Errorf("Split(%d) answers %d, %d, %v", r, h, l, ok)
		}
	}
}

func TestP1_1AnswersAreTheCallersOwn(t *testing.T) {
	first, _ := runes.Points("ab")
	first[0] = 'z'
	if again, _ := runes.Points("ab"); !slices.Equal(again, []int{'a', 'b'}) {
		t.Errorf("Points answers %v, once an earlier answer was changed", again)
	}
}
