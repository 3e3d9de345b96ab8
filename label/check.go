package label

import (
	"iter"

	"aviary/api"
)

// Runes below firstRune are in no value, nor is noRune.
const (
	firstRune = 0x20
	noRune    = 0x7f
)

// fault says what is wrong with labels, or with a text.
type fault string

// Error tells what is wrong.
func (f fault) Error() string {
	return "label: " + string(f)
}

// errno is the number of what is wrong.
func errno(err error) api.Errno {
	if _, wrong := err.(fault); wrong {
		return api.ErrLabel
	}
	return api.OK
}

// each goes through labels, and tells how many stand ahead of each one.
func each(l ...api.Label) iter.Seq2[int, api.Label] {
	return func(yield func(int, api.Label) bool) {
		for i := range l {
			if !yield(i, l[i]) {
				return
			}
		}
	}
}

// check finds what is wrong with labels that are to be a set.
func check(l ...api.Label) error {
	if len(l) < 1 || len(l) > api.MaxLabels {
		return fault("no labels, or too many of them")
	}
	var err error
	before := ""
labels:
	for _, x := range each(l...) {
		switch {
		case !isName(x.Name):
			err = fault("a name that is none")
			break labels
		case !isValue(x.Value):
			err = fault("a value that is none")
			break labels
		case x.Name <= before:
			err = fault("names that do not rise")
			break labels
		}
		before = x.Name
	}
	return err
}

// isName tells whether s is a name. Runes from a to z are a byte each, so that bytes may be counted.
func isName(s string) bool {
	for _, r := range s {
		if r < 'a' || r > 'z' {
			return false
		}
	}
	return len(s) >= 1 && len(s) <= api.MaxName
}

// isValue tells whether s is a value.
func isValue(s string) bool {
	for _, r := range s {
		if r < firstRune || r == noRune {
			return false
		}
	}
	n, ok := Runes(s)
	return ok && n <= api.MaxValue
}
