package hist

import (
	"iter"

	"aviary/api"
)

// fault says what is wrong with a histogram, or with what it is to be made of.
type fault string

// Error tells what is wrong.
func (f fault) Error() string {
	return "hist: " + string(f)
}

// errno is the number of what is wrong.
func errno(err error) api.Errno {
	if _, wrong := err.(fault); wrong {
		return api.ErrHist
	}
	return api.OK
}

// each goes through what it is handed, one by one.
func each[T any](l ...T) iter.Seq[T] {
	return func(yield func(T) bool) {
		for _, x := range l {
			if !yield(x) {
				return
			}
		}
	}
}

// digits finds what is wrong with how many digits behind the first one tell buckets apart.
func digits(fine int) error {
	if fine < 0 || fine > api.MaxFine {
		return fault("too few digits, or too many")
	}
	return nil
}

// check finds what is wrong with histograms, that are all to be of one Fine.
func check(all ...api.Hist) error {
	for x := range each(all...) {
		if x.Fine != all[0].Fine {
			return fault("another Fine than the first one has")
		}
		if err := digits(x.Fine); err != nil {
			return err
		}
		if err := bins(x.Fine, x.L...); err != nil {
			return err
		}
	}
	return nil
}

// bins finds what is wrong with a histogram's buckets.
func bins(fine int, l ...api.Bin) error {
	var err error
	before := -1
buckets:
	for b := range each(l...) {
		switch {
		case b.At <= before:
			err = fault("buckets that do not rise")
			break buckets
		case b.N == 0:
			err = fault("a bucket without values")
			break buckets
		}
		if _, _, err = bounds(fine, b.At); err != nil {
			break buckets
		}
		before = b.At
	}
	return err
}
