package json

import (
	"strings"

	"haversack/api"
	"haversack/ints"
	"haversack/quote"
)

// holder is an Array or Object that is begun and not ended yet.
type holder struct {
	node   api.Node
	places map[string]int // an Object's keys, and where they stand in Keys
}

// reader goes through a text from the left.
type reader struct {
	text    string
	at      int
	begun   int      // how many values are
	holders []holder // those that the place is in, from without
	last    api.Node // the value that ended last
}

// read is a machine: a label says what may stand at the place, and what does stand there says which label is next. It answers the first error that shows.
func (r *reader) read() error {
value:
	if err := r.begin(); err != nil {
		return err
	}
	if r.take('[') {
		goto array
	}
	if r.take('{') {
		goto object
	}
	if err := r.leaf(); err != nil {
		return err
	}
	goto behind
array:
	if err := r.enter(api.Array); err != nil {
		return err
	}
	if r.take(']') {
		goto leave
	}
	goto value
object:
	if err := r.enter(api.Object); err != nil {
		return err
	}
	if r.take('}') {
		goto leave
	}
key:
	if err := r.key(); err != nil {
		return err
	}
	if r.take(':') {
		goto value
	}
	return api.ErrSyntax
leave:
	r.leave()
behind:
	switch r.keep() {
	case api.Array:
		goto kid
	case api.Object:
		goto member
	}
	return r.end()
kid:
	if r.take(',') {
		goto value
	}
	if r.take(']') {
		goto leave
	}
	return api.ErrSyntax
member:
	if r.take(',') {
		goto key
	}
	if r.take('}') {
		goto leave
	}
	return api.ErrSyntax
}

// blanks goes behind the blanks at the place.
func (r *reader) blanks() {
	for r.at < len(r.text) {
		switch r.text[r.at] {
		case '\t', '\n', '\r', ' ':
			r.at++
		default:
			return
		}
	}
}

// take goes behind a byte, if that one stands next.
func (r *reader) take(b byte) bool {
	r.blanks()
	if r.at == len(r.text) || r.text[r.at] != b {
		return false
	}
	r.at++
	return true
}

// begin counts the value that should begin next, ahead of asking what it is: one too many is told ahead of all other errors of the place.
func (r *reader) begin() error {
	r.blanks()
	if r.at == len(r.text) {
		return api.ErrSyntax
	}
	if r.begun == api.MaxNodes {
		return api.ErrSize
	}
	r.begun++
	return nil
}

// end is the error of what stands behind the text's value.
func (r *reader) end() error {
	r.blanks()
	if r.at < len(r.text) {
		return api.ErrSyntax
	}
	return nil
}

// enter begins an Array or Object, behind its bracket.
func (r *reader) enter(kind int) error {
	if len(r.holders) == api.MaxDepth {
		return api.ErrDepth
	}
	r.holders = append(r.holders, holder{node: api.Node{Kind: kind}, places: map[string]int{}})
	return nil
}

// leave ends the innermost Array or Object.
func (r *reader) leave() {
	inner := len(r.holders) - 1
	r.last = r.holders[inner].node
	r.holders = r.holders[:inner]
}

// keep lays the value that ended last into the Array or Object in which it stands, and is that one's Kind; 0, if there is none.
func (r *reader) keep() int {
	if len(r.holders) == 0 {
		return 0
	}
	node := &r.holders[len(r.holders)-1].node
	node.Kids = append(node.Kids, r.last)
	return node.Kind
}

// key reads a member's key into the innermost Object.
func (r *reader) key() error {
	r.blanks()
	key, size, err := quote.Take(r.text, r.at)
	if err != nil {
		return err
	}
	r.at += size
	h := &r.holders[len(r.holders)-1]
	if _, twice := h.places[key]; twice {
		return api.ErrKey
	}
	h.places[key] = len(h.node.Keys)
	h.node.Keys = append(h.node.Keys, key)
	return nil
}

// leaf reads a value in which no others stand.
func (r *reader) leaf() error {
	rest := r.text[r.at:]
	size := 0
	var err error
	r.last = api.Node{}
	switch {
	case strings.HasPrefix(rest, "null"):
		r.last.Kind, size = api.Null, len("null")
	case strings.HasPrefix(rest, "false"):
		r.last.Kind, size = api.False, len("false")
	case strings.HasPrefix(rest, "true"):
		r.last.Kind, size = api.True, len("true")
	case rest[0] == '"':
		r.last.Kind = api.String
		r.last.Text, size, err = quote.Take(r.text, r.at)
	default:
		// What begins no number is told by layer 2 as what can't stand here.
		r.last.Kind = api.Int
		r.last.N, size, err = ints.Take(r.text, r.at)
	}
	r.at += size
	return err
}
