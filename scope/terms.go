package scope

import (
	"iter"
	"strings"

	"aviary/api"
	"aviary/label"
)

// What stands between a term's parts, and between terms.
const (
	equals  = "="
	between = ";"
)

// A term is kept as a label whose value is the pattern: its name, and the order of names, are as those of labels are.

// cut goes through what stands between a scope's semicolons, and tells whether each part has what makes a term of it. The empty scope has no part.
func cut(scope string) iter.Seq2[api.Label, bool] {
	return func(yield func(api.Label, bool) bool) {
		rest, more := scope, scope != ""
		for more {
			var part string
			part, rest, more = strings.Cut(rest, between)
			name, pattern, ok := strings.Cut(part, equals)
			if !yield(api.Label{Name: name, Value: pattern}, ok) {
				return
			}
		}
	}
}

// read is a scope's terms, and whether it is a scope.
func read(scope string) ([]api.Label, bool) {
	var terms []api.Label
	right := true
parts:
	for term, ok := range cut(scope) {
		switch {
		case !ok, len(terms) == api.MaxTerms, !IsPattern(term.Value):
			right = false
			break parts
		}
		terms = append(terms, term)
	}
	if !right || len(terms) > 0 && !label.Right(terms) {
		return nil, false
	}
	return terms, true
}

// meant tells whether terms mean a set.
func meant(l []api.Label, terms ...api.Label) bool {
	for _, term := range terms {
		value, ok := label.Get(l, term.Name)
		if !ok || !Fits(term.Value, value) {
			return false
		}
	}
	return true
}

// tell is the text of terms.
func tell(terms ...api.Label) string {
	var b strings.Builder
	for i, term := range terms {
		if i > 0 {
			b.WriteString(between)
		}
		b.WriteString(term.Name)
		b.WriteString(equals)
		b.WriteString(term.Value)
	}
	return b.String()
}
