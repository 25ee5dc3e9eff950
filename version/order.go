package version

import (
	"cmp"
	"strings"

	"haversack/api"
)

// The kinds of items, in their order.
const (
	dev = iota
	other
	numbers
	post
)

func kind(item api.Item) int {
	switch item.Word {
	case "":
		return numbers
	case "dev":
		return dev
	case "post":
		return post
	}
	return other
}

// items holds two items against each other.
func items(a, b api.Item) int {
	if c := cmp.Compare(kind(a), kind(b)); c != 0 {
		return c
	}
	// What stands beside a word, which no text has, is no number.
	if kind(a) == numbers {
		return cmp.Compare(a.N, b.N)
	}
	return strings.Compare(a.Word, b.Word)
}

// components holds two components against each other.
func components(a, b []api.Item) int {
	return rows(a, b, items)
}

// rows holds two rows against each other piece by piece, as if the shorter one went on.
func rows[P any](a, b []P, held func(a, b P) int) int {
	for i := range max(len(a), len(b)) {
		if c := held(at(a, i), at(b, i)); c != 0 {
			return c
		}
	}
	return 0
}

// heads tells whether each piece of a head is held to be the same as that at its place of a row.
func heads[P any](head, row []P, held func(a, b P) int) bool {
	return rows(head, row[:min(len(row), len(head))], held) == 0
}

// at is a row's piece at a place. Behind its end a row goes on with zero values: of items that is the number 0, of components one without items, which is held to be that of the number 0 alone.
func at[P any](row []P, place int) P {
	if place < len(row) {
		return row[place]
	}
	var zero P
	return zero
}
