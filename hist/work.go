package hist

import (
	"iter"
	"maps"
	"math"
	"slices"

	"aviary/api"
)

// counts is how many values are in each bucket that has some.
type counts map[int]uint64

// work is a histogram at work.
type work struct {
	counts
	fine int
}

// begin is all parts' values, at work; the parts are of one Fine.
func begin(fine int, parts ...api.Hist) *work {
	w := work{counts{}, fine}
	for x := range each(parts...) {
		for b := range each(x.L...) {
			w.put(b.At, b.N)
		}
	}
	return &w
}

// put puts n values more into a bucket.
func (w *work) put(at int, n uint64) {
	// A bucket without values is to be none.
	if n > 0 {
		w.counts[at] = together(w.counts[at], n)
	}
}

// tell adds each value n times.
func (w *work) tell(n uint64, values ...uint64) {
	for v := range each(values...) {
		w.put(place(w.fine, v), n)
	}
}

// rising goes through the buckets, as they stand when it begins, and tells how many values are in each one by then.
func (w *work) rising() iter.Seq2[int, uint64] {
	return func(yield func(int, uint64) bool) {
		for at := range each(slices.Sorted(maps.Keys(w.counts))...) {
			if !yield(at, w.counts[at]) {
				return
			}
		}
	}
}

// coarsen has one digit less tell values apart.
func (w *work) coarsen() {
	// No bucket comes to a greater number, so those that are still to be moved have their own values alone.
	for at, n := range w.rising() {
		delete(w.counts, at)
		w.put(coarse(at), n)
	}
	w.fine--
}

// done is the histogram, as it is by now.
func (w *work) done() api.Hist {
	x := api.Hist{Fine: w.fine}
	for at, n := range w.rising() {
		x.L = append(x.L, api.Bin{At: at, N: n})
	}
	return x
}

// together is how many values all numbers come to, saturated.
func together(numbers ...uint64) uint64 {
	var all uint64
	for n := range each(numbers...) {
		// A sum that went past the greatest number would begin at 0 again.
		if n > math.MaxUint64-all {
			return math.MaxUint64
		}
		all += n
	}
	return all
}

// upTo goes through x's buckets, and tells how many values are in those up to each one.
func upTo(x api.Hist) iter.Seq2[int, uint64] {
	return func(yield func(int, uint64) bool) {
		var n uint64
		for b := range each(x.L...) {
			n = together(n, b.N)
			if !yield(b.At, n) {
				return
			}
		}
	}
}

// rank is how many of x's values are in buckets up to one.
func rank(x api.Hist, last int) uint64 {
	var passed uint64
buckets:
	for at, n := range upTo(x) {
		if at > last {
			break buckets
		}
		passed = n
	}
	return passed
}

// add is x with each value added n times.
func add(x api.Hist, n uint64, values ...uint64) (api.Hist, error) {
	if err := check(x); err != nil {
		return api.Hist{}, err
	}
	w := begin(x.Fine, x)
	w.tell(n, values...)
	return w.done(), nil
}

// merge is x's values and y's.
func merge(x, y api.Hist) (api.Hist, error) {
	if err := check(x, y); err != nil {
		return api.Hist{}, err
	}
	return begin(x.Fine, x, y).done(), nil
}

// lower is x's values, which one digit less tells apart.
func lower(x api.Hist) (api.Hist, error) {
	if err := check(x); err != nil {
		return api.Hist{}, err
	}
	if x.Fine == 0 {
		return api.Hist{}, fault("no digit to spare")
	}
	w := begin(x.Fine, x)
	w.coarsen()
	return w.done(), nil
}
