package cms

import (
	"iter"
	"math"

	"aviary/api"
)

// work is counters at work; what is written into was begun, or filled, in memory of its own.
type work struct {
	api.Cms
}

// begin is x at work.
func begin(x api.Cms) *work {
	w := work{x}
	w.L = make([]uint64, len(x.L))
	copy(w.L, x.L)
	return &w
}

// counters goes through the counters that h tells, row by row: each one's place, and what it is.
func (w *work) counters(h uint64) iter.Seq2[int, uint64] {
	return func(yield func(int, uint64) bool) {
		for row := range w.Rows {
			at := row*w.Cols + column(w.Cols, row, h)
			if !yield(at, w.L[at]) {
				return
			}
		}
	}
}

// tell adds each number n times.
func (w *work) tell(n uint64, numbers ...uint64) {
	for h := range each(numbers...) {
		for at, ahead := range w.counters(h) {
			w.L[at] = together(ahead, n)
		}
	}
}

// least is the least counter that h tells.
func (w *work) least(h uint64) uint64 {
	var least uint64 = math.MaxUint64
rows:
	for _, n := range w.counters(h) {
		switch {
		case n == 0:
			// No other row can tell less.
			least = 0
			break rows
		case n < least:
			least = n
		}
	}
	return least
}

// column is the one that h tells in a row.
func column(cols int, row int, h uint64) int {
	a, b := h>>32, uint64(uint32(h))
	return int((a + uint64(row)*b) % uint64(cols))
}

// together is both numbers, saturated.
func together(a, b uint64) uint64 {
	// A sum that went past the greatest number began at 0 again, and is less than each of the two.
	if sum := a + b; sum >= a {
		return sum
	}
	return math.MaxUint64
}

// filled is counters that are what of tells for their rows and columns.
func filled(rows int, cols int, of func(row, col int) uint64) api.Cms {
	w := work{api.Cms{Rows: rows, Cols: cols, L: make([]uint64, rows*cols)}}
	for row := range w.Rows {
		for col := range w.Cols {
			w.L[row*w.Cols+col] = of(row, col)
		}
	}
	return w.Cms
}

// empty is counters of no numbers.
func empty(rows int, cols int) (api.Cms, error) {
	if err := shape(rows, cols); err != nil {
		return api.Cms{}, err
	}
	return filled(rows, cols, func(int, int) uint64 { return 0 }), nil
}

// add is x with each number added n times.
func add(x api.Cms, n uint64, numbers ...uint64) (api.Cms, error) {
	if err := check(x); err != nil {
		return api.Cms{}, err
	}
	w := begin(x)
	w.tell(n, numbers...)
	return w.Cms, nil
}

// merge is x's counters and y's, each two together.
func merge(x, y api.Cms) (api.Cms, error) {
	if err := check(x, y); err != nil {
		return api.Cms{}, err
	}
	both := func(row, col int) uint64 {
		at := row*x.Cols + col
		return together(x.L[at], y.L[at])
	}
	return filled(x.Rows, x.Cols, both), nil
}

// lower is x's counters, those of each two columns that half as many tell no more apart together.
func lower(x api.Cms) (api.Cms, error) {
	if err := check(x); err != nil {
		return api.Cms{}, err
	}
	if x.Cols == minCols {
		return api.Cms{}, fault("no columns to spare")
	}
	half := x.Cols / 2
	both := func(row, col int) uint64 {
		at := row*x.Cols + col
		return together(x.L[at], x.L[at+half])
	}
	return filled(x.Rows, half, both), nil
}
