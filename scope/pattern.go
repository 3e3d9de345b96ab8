package scope

import (
	"aviary/api"
	"aviary/label"
)

// The runes of a pattern that stand for others than themselves.
const (
	anyRunes = '*'
	anyRune  = '?'
	quote    = '~'
)

// piece is what a rune of a pattern stands for.
type piece interface {
	// free tells whether it may stand for no rune at all.
	free() bool
}

// many stands for any runes, one for a rune, self for that rune.
type (
	many struct{}
	one  struct{}
	self rune
)

func (many) free() bool { return true }
func (one) free() bool  { return false }
func (self) free() bool { return false }

// pattern is what a pattern's runes stand for.
type pattern []piece

// places are places in a pattern: how many of its pieces have stood for what they stand for. A value may be at several of them at once.
type places map[int]struct{}

// parse is what the runes of p stand for, and whether p is a pattern.
func parse(p string) (pattern, bool) {
	// What a pattern's runes may be is what a value's may.
	if !label.Right([]api.Label{{Name: "a", Value: p}}) {
		return nil, false
	}
	var l pattern
	quoted := false
	for _, r := range p {
		switch {
		case quoted:
			l = append(l, self(r))
			quoted = false
		case r == quote:
			quoted = true
		case r == anyRunes:
			l = append(l, many{})
		case r == anyRune:
			l = append(l, one{})
		default:
			l = append(l, self(r))
		}
	}
	if quoted {
		return nil, false
	}
	return l, true
}

// fits tells whether a pattern stands for a value, from the first rune to the last one. All places are followed at once, so that it takes a step a rune, however many runes may be taken by one piece or by another.
func (l pattern) fits(value string) bool {
	at := places{}
	l.reach(at, 0)
	for _, r := range value {
		at = l.step(at, r)
		if len(at) == 0 {
			return false
		}
	}
	_, ended := at[len(l)]
	return ended
}

// step is where a rune leads.
func (l pattern) step(at places, r rune) places {
	next := places{}
	for i := range at {
		if i < len(l) {
			l.take(next, i, r)
		}
	}
	return next
}

// take puts into next where a rune leads from the place ahead of a piece.
func (l pattern) take(next places, i int, r rune) {
	switch x := l[i].(type) {
	case many:
		l.reach(next, i)
	case one:
		l.reach(next, i+1)
	default:
		if x.(self) == self(r) {
			l.reach(next, i+1)
		}
	}
}

// reach puts a place into at, and those that no rune more leads to from there.
func (l pattern) reach(at places, i int) {
	at[i] = struct{}{}
	for ; i < len(l) && l[i].free(); i++ {
		at[i+1] = struct{}{}
	}
}
