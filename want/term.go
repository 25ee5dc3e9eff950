package want

import (
	"iter"
	"slices"
	"strings"

	"haversack/api"
	"haversack/version"
)

// star is the term that every version has, and its Op.
const star = "*"

// texts are those of a constraint's terms from the left, each with the place of its row.
func texts(s string) iter.Seq2[int, string] {
	return func(yield func(row int, text string) bool) {
		for i, row := range strings.Split(s, "|") {
			for _, text := range strings.Split(row, ",") {
				if !yield(i, text) {
					return
				}
			}
		}
	}
}

// read is a text's term.
func read(s string) (api.Term, error) {
	if s == star {
		return api.Term{Op: star}, nil
	}
	op := operator(s)
	text := s[len(op):]
	if op == "" || op == "=" {
		op, text = loose(op, text)
	}
	v, err := version.Parse(text)
	if err != nil {
		return api.Term{}, err
	}
	return Term(op, v)
}

// operator is the longest operator that a text begins with; "", if there is none.
func operator(s string) string {
	for _, op := range [...]string{"==", "!=", ">=", "<=", "~=", ">", "<", "="} {
		if strings.HasPrefix(s, op) {
			return op
		}
	}
	return ""
}

// loose is what is told by a version's text that may have ".*" or "*" behind: the operator, and the text without these.
func loose(op, text string) (string, string) {
	bare, dotted := strings.CutSuffix(text, ".*")
	if !dotted {
		bare = strings.TrimSuffix(text, star)
	}
	if op == "" && bare == text {
		return "==", text
	}
	return "=", bare
}

// stands tells whether a version may stand behind an operator.
func stands(op string, v api.Version) bool {
	switch op {
	case "=":
		return len(v.Local) == 0
	case "~=":
		return len(v.Local) == 0 && len(v.Parts) >= 2
	}
	return true
}

// right tells whether a term is one that a text has.
func right(t api.Term) bool {
	if t.Op == star {
		return t.Version.Epoch == 0 && len(t.Version.Parts) == 0 && len(t.Version.Local) == 0
	}
	_, err := Term(t.Op, t.Version)
	return err == nil
}

// every tells whether each term of a row is as asked.
func every(row []api.Term, asked func(t api.Term) bool) bool {
	return !slices.ContainsFunc(row, func(t api.Term) bool { return !asked(t) })
}

// has tells whether a version has a term.
func has(t api.Term, v api.Version) bool {
	held := version.Compare(v, t.Version)
	switch t.Op {
	case star:
		return true
	case "==":
		return held == 0
	case "!=":
		return held != 0
	case ">=":
		return held >= 0
	case "<=":
		return held <= 0
	case ">":
		return held > 0
	case "<":
		return held < 0
	case "=":
		return version.Begins(v, t.Version)
	case "~=":
		shorter, err := version.Shorter(t.Version)
		return err == nil && held >= 0 && version.Begins(v, shorter)
	}
	return false
}

// joined is a row of the terms of two, in memory of its own.
func joined(first, second []api.Term) []api.Term {
	row := slices.Concat(first, second)
	for i, t := range row {
		row[i].Version = own(t.Version)
	}
	return row
}

// own is a version in memory of its own.
func own(v api.Version) api.Version {
	return api.Version{Epoch: v.Epoch, Parts: ownRow(v.Parts), Local: ownRow(v.Local)}
}

func ownRow(row [][]api.Item) [][]api.Item {
	again := slices.Clone(row)
	for i, component := range again {
		again[i] = slices.Clone(component)
	}
	return again
}
