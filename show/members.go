package show

import (
	"slices"
	"sort"

	"haversack/api"
)

// find is the kid of an Object's key where it stands, not a copy of it: for asking, not for handing out.
func find(n api.Node, key string) (*api.Node, bool) {
	if n.Kind != api.Object {
		return nil, false
	}
	place := slices.Index(n.Keys, key)
	if place < 0 || place >= len(n.Kids) {
		return nil, false
	}
	return &n.Kids[place], true
}

// twice tells whether two keys are the same.
func twice(keys []string) bool {
	places := make(map[string]int, len(keys))
	for i, key := range keys {
		places[key] = i
	}
	return len(places) < len(keys)
}

// own is a copy of a value that shares no list with it, however deep.
func own(n api.Node) api.Node {
	n.Keys = slices.Clone(n.Keys)
	n.Kids = slices.Clone(n.Kids)
	for i, kid := range n.Kids {
		n.Kids[i] = own(kid)
	}
	return n
}

// rise puts the members of each Object of a value in order, in the lists where they stand. One that hasn't as many Keys as Kids has no members to move.
func rise(n api.Node) {
	if n.Kind == api.Object && len(n.Keys) == len(n.Kids) {
		sort.Stable(members(n))
	}
	for _, kid := range n.Kids {
		rise(kid)
	}
}

// members are an Object's, by their keys: a kid moves with its key.
type members api.Node

func (m members) Len() int           { return len(m.Keys) }
func (m members) Less(i, j int) bool { return m.Keys[i] < m.Keys[j] }
func (m members) Swap(i, j int) {
	m.Keys[i], m.Keys[j] = m.Keys[j], m.Keys[i]
	m.Kids[i], m.Kids[j] = m.Kids[j], m.Kids[i]
}
