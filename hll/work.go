package hll

import (
	"iter"
	"math/bits"

	"aviary/api"
)

// work is registers at work: their ranks, that may be written into, and what two ranks come to in one register.
type work struct {
	api.Hll
	ranks []byte
	of    func(a, b byte) byte
}

// tell has each number tell its register its rank.
func (w *work) tell(numbers ...uint64) {
	for n := range each(numbers...) {
		at, rank := Place(w.Bits, n)
		w.ranks[at] = w.of(w.ranks[at], byte(rank))
	}
}

// join makes a register of what two ranks come to, pair by pair.
func (w *work) join(pairs iter.Seq2[byte, byte]) {
	for a, b := range pairs {
		w.ranks = append(w.ranks, w.of(a, b))
	}
}

// done is the registers, as they are by now.
func (w *work) done() api.Hll {
	w.Regs = string(w.ranks)
	return w.Hll
}

// greater is the greater one of two ranks.
func greater(a, b byte) byte {
	return max(a, b)
}

// lowered is the rank of a register that tells the numbers of two no more apart: the digit that did so is now the first of the others.
func lowered(zero, one byte) byte {
	switch {
	case zero != 0:
		return zero + 1
	case one != 0:
		return 1
	}
	return 0
}

// pairs goes through the ranks of x and y, side by side, a step at a time.
func pairs(x, y string, step int) iter.Seq2[byte, byte] {
	return func(yield func(byte, byte) bool) {
		for i := 0; i < min(len(x), len(y)); i += step {
			if !yield(x[i], y[i]) {
				return
			}
		}
	}
}

// rank is one more than how many of n's greatest digits, of so many, are 0 ahead of the first 1 among them.
func rank(n uint64, of int) int {
	return 1 + min(bits.LeadingZeros64(n), of)
}

// empty is registers that were told nothing.
func empty(bits int) (api.Hll, error) {
	if err := digits(bits); err != nil {
		return api.Hll{}, err
	}
	w := work{Hll: api.Hll{Bits: bits}, ranks: make([]byte, 1<<bits)}
	return w.done(), nil
}

// add is x with the ranks of numbers.
func add(x api.Hll, numbers ...uint64) (api.Hll, error) {
	if err := check(x); err != nil {
		return api.Hll{}, err
	}
	w := work{Hll: x, ranks: []byte(x.Regs), of: greater}
	w.tell(numbers...)
	return w.done(), nil
}

// merge is the greater ones of x's and y's ranks.
func merge(x, y api.Hll) (api.Hll, error) {
	if err := check(x, y); err != nil {
		return api.Hll{}, err
	}
	w := work{Hll: api.Hll{Bits: x.Bits}, of: greater}
	w.join(pairs(x.Regs, y.Regs, 1))
	return w.done(), nil
}

// lower is x's registers, two made one each.
func lower(x api.Hll) (api.Hll, error) {
	if err := check(x); err != nil {
		return api.Hll{}, err
	}
	if x.Bits == api.MinBits {
		return api.Hll{}, fault("no digit to spare")
	}
	w := work{Hll: api.Hll{Bits: x.Bits - 1}, of: lowered}
	w.join(pairs(x.Regs, x.Regs[1:], 2))
	return w.done(), nil
}

// sum is what the ranks of x come to: 2 to the power of 32 less each one, and at least 1.
func sum(x api.Hll) uint64 {
	var s uint64
	for i := range 1 << x.Bits {
		s += 1 << (32 - min(x.Regs[i], 32))
	}
	return s
}
