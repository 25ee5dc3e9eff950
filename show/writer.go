package show

import (
	"strings"

	"haversack/api"
	"haversack/ints"
	"haversack/quote"
)

// words are the texts of the Kinds that have just one.
var words = [...]string{api.Null: "null", api.False: "false", api.True: "true"}

// writer writes Right values one behind the other.
type writer struct {
	strings.Builder
}

func (w *writer) value(n api.Node) {
	switch n.Kind {
	case api.Int:
		w.WriteString(ints.Text(n.N))
	case api.String:
		w.quoted(n.Text)
	case api.Array:
		w.array(n.Kids)
	case api.Object:
		w.object(n.Keys, n.Kids)
	default:
		w.WriteString(words[n.Kind])
	}
}

func (w *writer) quoted(text string) {
	// No error can be here: the texts and keys of a Right value are Valid.
	s, _ := quote.Quote(text)
	w.WriteString(s)
}

func (w *writer) array(kids []api.Node) {
	w.WriteByte('[')
	for i, kid := range kids {
		w.comma(i)
		w.value(kid)
	}
	w.WriteByte(']')
}

func (w *writer) object(keys []string, kids []api.Node) {
	w.WriteByte('{')
	for i, key := range keys {
		w.comma(i)
		w.quoted(key)
		w.WriteByte(':')
		w.value(kids[i])
	}
	w.WriteByte('}')
}

// comma stands ahead of each place but the first.
func (w *writer) comma(place int) {
	if place > 0 {
		w.WriteByte(',')
	}
}
