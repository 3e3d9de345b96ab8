package cms

import (
	"iter"

	"aviary/api"
)

// minCols is how few columns there may be.
const minCols = 4

// fault says what is wrong with counters, or with what they are to be made of.
type fault string

// Error tells what is wrong.
func (f fault) Error() string {
	return "cms: " + string(f)
}

// errno is the number of what is wrong.
func errno(err error) api.Errno {
	if _, wrong := err.(fault); wrong {
		return api.ErrCms
	}
	return api.OK
}

// each goes through what it is handed, one by one.
func each[T any](l ...T) iter.Seq[T] {
	return func(yield func(T) bool) {
		for _, x := range l {
			if !yield(x) {
				return
			}
		}
	}
}

// shape finds what is wrong with how many rows and columns there are.
func shape(rows int, cols int) error {
	if rows < 1 || rows > api.MaxRows {
		return fault("too few rows, or too many")
	}
	// A power of two has one digit that is not 0.
	if cols < minCols || cols > api.MaxCols || cols&(cols-1) != 0 {
		return fault("columns that are not 4, 8, 16 or 32")
	}
	return nil
}

// check finds what is wrong with counters, that are all to have as many rows and columns.
func check(all ...api.Cms) error {
	for x := range each(all...) {
		// The shape comes first: how many counters it has may be past all numbers.
		if err := shape(x.Rows, x.Cols); err != nil {
			return err
		}
		if x.Rows != all[0].Rows || x.Cols != all[0].Cols {
			return fault("other rows or columns than the first ones have")
		}
		if len(x.L) != x.Rows*x.Cols {
			return fault("too few counters, or too many")
		}
	}
	return nil
}
