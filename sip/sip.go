// Package sip is layer 1: sums of bytes with a key.
package sip

import (
	"iter"
	"math/bits"

	"aviary/api"
)

// eight is how many bytes a number has.
const eight = 8

// What the key's halves are changed by at first, and v2 at last.
const (
	first0 = 0x736f6d6570736575
	first1 = 0x646f72616e646f6d
	first2 = 0x6c7967656e657261
	first3 = 0x7465646279746573
	last2  = 0xff
)

// numbers are v0 to v3.
type numbers [4]uint64

// summer is a sum that is being worked out.
type summer struct {
	numbers
}

// Sum is the sum of s with k.
func Sum(k api.Key, s string) uint64 {
	sum := begin(k)
	var m uint64
eights:
	for piece := range eights(s) {
		m = 0
		for i := range eight {
			if i == len(piece) {
				break eights
			}
			m |= uint64(piece[i]) << (8 * i)
		}
		sum.take(m)
	}
	sum.take(m | uint64(byte(len(s)))<<56)
	return sum.end()
}

// Child is k's child of s.
func Child(k api.Key, s string) api.Key {
	return api.Key{A: Sum(k, "\x00"+s), B: Sum(k, "\x01"+s)}
}

// Round is v behind a round.
func Round(v [4]uint64) [4]uint64 {
	n := numbersOf(v[:]...)
	n.rounds(1)
	return n
}

// Same tells whether a and b are the same.
func Same(a uint64, b uint64) bool {
	return numbersOf(a) == numbersOf(b)
}

// numbersOf has the numbers of l, up to the fourth, and 0 for those that are not there.
func numbersOf(l ...uint64) numbers {
	var n numbers
	copy(n[:], l)
	return n
}

// eights goes through the pieces of eight bytes of s, then through what is left. That is told even if it is empty, so that the last piece is always the one that is short.
func eights(s string) iter.Seq[string] {
	return func(yield func(string) bool) {
		rest := s
		for len(rest) >= eight {
			if !yield(rest[:eight]) {
				return
			}
			rest = rest[eight:]
		}
		yield(rest)
	}
}

// begin is a sum with k, of nothing yet.
func begin(k api.Key) summer {
	return summer{numbersOf(k.A^first0, k.B^first1, k.A^first2, k.B^first3)}
}

// take works a number in.
func (s *summer) take(m uint64) {
	s.numbers[3] ^= m
	s.rounds(2)
	s.numbers[0] ^= m
}

// end is the sum of what was taken.
func (s *summer) end() uint64 {
	s.numbers[2] ^= last2
	s.rounds(4)
	return s.numbers[0] ^ s.numbers[1] ^ s.numbers[2] ^ s.numbers[3]
}

// rounds goes through as many rounds.
func (n *numbers) rounds(count int) {
	v0, v1, v2, v3 := n[0], n[1], n[2], n[3]
	for range count {
		v0 += v1
		v1 = bits.RotateLeft64(v1, 13) ^ v0
		v0 = bits.RotateLeft64(v0, 32)
		v2 += v3
		v3 = bits.RotateLeft64(v3, 16) ^ v2
		v0 += v3
		v3 = bits.RotateLeft64(v3, 21) ^ v0
		v2 += v1
		v1 = bits.RotateLeft64(v1, 17) ^ v2
		v2 = bits.RotateLeft64(v2, 32)
	}
	*n = numbers{v0, v1, v2, v3}
}
