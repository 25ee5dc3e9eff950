// Package runes is layer 1: code points, and texts of them in UTF-8.
package runes

import (
	"unicode/utf8"

	"haversack/api"
)

const (
	lastPoint = 0x10FFFF
	firstHigh = 0xD800
	firstLow  = 0xDC00
	lastLow   = 0xDFFF
	firstPair = 0x10000 // the first code point that two surrogates stand for
	lows      = 1024    // low surrogates, and so code points of a high one
	hexDigits = 4
)

// Decode is the code point whose bytes stand in s from at on, and how many they are.
func Decode(s string, at int) (r, size int, ok bool) {
	if at < 0 || at >= len(s) {
		return 0, 0, false
	}
	c, n := utf8.DecodeRuneInString(s[at:])
	// RuneError of one byte is the library's word for a fault; as a code point that is written it has three bytes.
	if c == utf8.RuneError && n == 1 {
		return 0, 0, false
	}
	return int(c), n, true
}

// Encode is a code point's bytes.
func Encode(r int) (string, bool) {
	if !isPoint(r) {
		return "", false
	}
	return string(rune(r)), true
}

// Valid tells whether a text is code points' bytes, one behind the other.
func Valid(s string) bool { return utf8.ValidString(s) }

// Points is a text's code points.
func Points(s string) ([]int, bool) {
	if !Valid(s) {
		return nil, false
	}
	points := make([]int, 0, utf8.RuneCountInString(s))
	for _, r := range s {
		points = append(points, int(r))
	}
	return points, true
}

// Text is code points' bytes; ErrRange, if one of the numbers isn't a code point.
func Text(points ...int) (string, error) {
	text := make([]byte, 0, len(points))
	for _, p := range points {
		if !isPoint(p) {
			return "", api.ErrRange
		}
		text = utf8.AppendRune(text, rune(p))
	}
	return string(text), nil
}

// Hex is the number of the four hexadecimal digits at a place.
func Hex(s string, at int) (int, bool) {
	// Not at+hexDigits > len(s): that sum may wrap round.
	if at < 0 || at > len(s)-hexDigits {
		return 0, false
	}
	n := 0
	for i := range hexDigits {
		d, ok := digit(s[at+i])
		if !ok {
			return 0, false
		}
		n = n*16 + d
	}
	return n, true
}

// Join is the code point of a high and a low surrogate.
func Join(high, low int) (int, bool) {
	if high < firstHigh || high >= firstLow || low < firstLow || low > lastLow {
		return 0, false
	}
	return firstPair + (high-firstHigh)*lows + (low - firstLow), true
}

// Split is the high and the low surrogate of a code point from 65536 on.
func Split(r int) (high, low int, ok bool) {
	if r < firstPair || r > lastPoint {
		return 0, 0, false
	}
	over := r - firstPair
	return firstHigh + over/lows, firstLow + over%lows, true
}

// isPoint asks the whole number: made a rune first, one above 32 bits would look like another one.
func isPoint(r int) bool {
	return r >= 0 && r <= lastPoint && (r < firstHigh || r > lastLow)
}

func digit(b byte) (int, bool) {
	switch {
	case '0' <= b && b <= '9':
		return int(b - '0'), true
	case 'a' <= b && b <= 'f':
		return int(b-'a') + 10, true
	case 'A' <= b && b <= 'F':
		return int(b-'A') + 10, true
	}
	return 0, false
}
