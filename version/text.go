package version

import (
	"math"
	"strings"

	"haversack/api"
	"haversack/ints"
)

// Text is a version's text.
func Text(v api.Version) string {
	var b strings.Builder
	if v.Epoch != 0 {
		b.WriteString(ints.Text(v.Epoch))
		b.WriteByte('!')
	}
	write(&b, v.Parts)
	if len(v.Local) > 0 {
		b.WriteByte('+')
		write(&b, v.Local)
	}
	return b.String()
}

// write adds a row of components.
func write(b *strings.Builder, row [][]api.Item) {
	for i, component := range row {
		if i > 0 {
			b.WriteByte('.')
		}
		if len(component) > 1 && component[0] == (api.Item{}) {
			component = component[1:]
		}
		for _, item := range component {
			if item.Word == "" {
				b.WriteString(ints.Text(item.N))
			} else {
				b.WriteString(item.Word)
			}
		}
	}
}

// read is the version of a text in small letters, of any length.
func read(s string) (api.Version, bool) {
	var v api.Version
	ok := true
	if digits, rest, told := strings.Cut(s, "!"); told {
		v.Epoch, ok = number(digits)
		s = rest
	}
	parts, local, told := strings.Cut(s, "+")
	if ok {
		v.Parts, ok = readRow(parts)
	}
	if ok && told {
		v.Local, ok = readRow(local)
	}
	if !ok {
		return api.Version{}, false
	}
	return v, true
}

// readRow is the components of a text that has nothing but them.
func readRow(s string) ([][]api.Item, bool) {
	dotted := strings.ReplaceAll(strings.ReplaceAll(s, "_", "."), "-", ".")
	var row [][]api.Item
	for _, text := range strings.Split(dotted, ".") {
		component, ok := readComponent(text)
		if !ok {
			return nil, false
		}
		row = append(row, component)
	}
	return row, true
}

// readComponent is the items of a component's text.
func readComponent(s string) ([]api.Item, bool) {
	if s == "" {
		return nil, false
	}
	if letters(s) > 0 {
		s = "0" + s
	}
	var component []api.Item
	for s != "" {
		item, size, ok := readItem(s)
		if !ok {
			return nil, false
		}
		component = append(component, item)
		s = s[size:]
	}
	return component, true
}

// readItem is the item that a text begins with, and how many bytes it has.
func readItem(s string) (api.Item, int, bool) {
	if size := letters(s); size > 0 {
		return api.Item{Word: s[:size]}, size, true
	}
	size := run(s, '0', '9')
	n, ok := number(s[:size])
	return api.Item{N: n}, size, ok
}

// wrong tells whether a component is none that a text has: there numbers and words stand by turns.
func wrong(component []api.Item) bool {
	for i, item := range component {
		isWord := i%2 == 1
		if isWord && (item.N != 0 || !word(item.Word)) || !isWord && (item.Word != "" || !numeric(item.N)) {
			return true
		}
	}
	return len(component) == 0
}

// word tells whether a text is nothing but small letters, one at least.
func word(s string) bool {
	return s != "" && letters(s) == len(s)
}

// number is the number of digits, if there are some and not too many: those of an epoch are as few as those of an item.
func number(s string) (int, bool) {
	return ints.Small(s, math.MaxInt)
}

// numeric tells whether a number is one that digits have.
func numeric(n int) bool {
	_, ok := number(ints.Text(n))
	return ok
}

// letters is how many small letters a text begins with.
func letters(s string) int {
	return run(s, 'a', 'z')
}

// run is how many bytes from first to last a text begins with.
func run(s string, first, last byte) int {
	n := 0
	for n < len(s) && first <= s[n] && s[n] <= last {
		n++
	}
	return n
}
