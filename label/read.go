package label

import (
	"unicode/utf8"

	"aviary/api"
)

// longest is how many bytes a text has at most, if it tells a set: a quote may stand ahead of each rune of a value, and a comma stands behind each label but the last one.
const longest = api.MaxLabels*(api.MaxName+1+api.MaxValue*(1+utf8.UTFMax)+1) - 1

// reader reads labels, rune by rune; what it embeds is the label that is being read. What a rune does hangs on where it stands: does has the runes that mean something there, others is for all the rest.
type reader struct {
	api.Label
	done   []api.Label
	does   map[rune]func(rune)
	others func(rune)
}

// read reads the labels of a text, as they stand in it; they may be no set.
func read(s string) ([]api.Label, error) {
	if len(s) > longest {
		return nil, fault("a text that is too long")
	}
	if _, ok := Runes(s); !ok {
		return nil, fault("bytes that are no runes")
	}
	var r reader
	r.beginName()
	// The last label ends as all others do, unless it can't end there.
	for _, c := range s + string(comma) {
		r.take(c)
	}
	if r.Label != (api.Label{}) {
		return nil, fault("a label that does not end")
	}
	return r.done, nil
}

// take does what a rune does.
func (r *reader) take(c rune) {
	if do, ok := r.does[c]; ok {
		do(c)
		return
	}
	r.others(c)
}

// beginName goes on to a name.
func (r *reader) beginName() {
	r.does = map[rune]func(rune){equals: r.endName}
	r.others = r.addToName
}

// beginValue goes on to a value, or to what is left of it.
func (r *reader) beginValue() {
	r.does = map[rune]func(rune){comma: r.endLabel, quote: r.beginQuoted}
	r.others = r.addToValue
}

// beginQuoted goes on to a rune that means nothing but itself, whichever it is.
func (r *reader) beginQuoted(rune) {
	r.does = nil
	r.others = r.addQuoted
}

// addToName takes a rune of a name.
func (r *reader) addToName(c rune) {
	r.Name += string(c)
}

// addToValue takes a rune of a value.
func (r *reader) addToValue(c rune) {
	r.Value += string(c)
}

// addQuoted takes the rune behind a quote.
func (r *reader) addQuoted(c rune) {
	r.addToValue(c)
	r.beginValue()
}

// endName ends a name.
func (r *reader) endName(rune) {
	r.beginValue()
}

// endLabel ends a label.
func (r *reader) endLabel(rune) {
	r.done = append(r.done, r.Label)
	r.Label = api.Label{}
	r.beginName()
}
