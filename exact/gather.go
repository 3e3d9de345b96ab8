package exact

import (
	"iter"
	"slices"

	"aviary/api"
)

// fault says what is wrong with a sketch, or with numbers that are to be one.
type fault string

// Error tells what is wrong.
func (f fault) Error() string {
	return "exact: " + string(f)
}

// errno is the number of what is wrong.
func errno(err error) api.Errno {
	if _, wrong := err.(fault); wrong {
		return api.ErrExact
	}
	return api.OK
}

// each goes through numbers, and tells how many stand ahead of each one.
func each(l ...uint64) iter.Seq2[int, uint64] {
	return func(yield func(int, uint64) bool) {
		for i, n := range l {
			if !yield(i, n) {
				return
			}
		}
	}
}

// check finds what is wrong with x.
func check(x api.Exact) error {
	if len(x.L) > api.MaxExact {
		return fault("too many numbers")
	}
	for i, n := range each(x.L...) {
		if i > 0 && n <= x.L[i-1] {
			return fault("numbers that do not rise")
		}
	}
	return nil
}

// gather has x's numbers and all others, rising, in memory of their own.
func gather(x api.Exact, others ...uint64) ([]uint64, error) {
	if err := check(x); err != nil {
		return nil, err
	}
	set := make([]uint64, len(x.L))
	copy(set, x.L)
	// The set grows, and a place is that in the set as it is by then.
	place := func(n uint64) (int, bool) { return slices.BinarySearch(set, n) }
	var err error
numbers:
	for _, n := range each(others...) {
		at, is := place(n)
		switch {
		case is:
			continue numbers
		case len(set) == api.MaxExact:
			err = fault("too many different numbers")
			break numbers
		}
		set = put(set, at, n)
	}
	return set, err
}

// put has n at a place among l's numbers; l stays as it is.
func put(l []uint64, at int, n uint64) []uint64 {
	// What is ahead has no spare room, for behind it stand numbers that are still needed.
	ahead, behind := l[:at:at], l[at:]
	return append(append(ahead, n), behind...)
}
