package hll

import (
	"iter"

	"aviary/api"
)

// fault says what is wrong with registers, or with what they are to be made of.
type fault string

// Error tells what is wrong.
func (f fault) Error() string {
	return "hll: " + string(f)
}

// errno is the number of what is wrong.
func errno(err error) api.Errno {
	if _, wrong := err.(fault); wrong {
		return api.ErrHll
	}
	return api.OK
}

// each goes through what it is handed, one by one.
func each[T any](l ...T) iter.Seq[T] {
	return func(yield func(T) bool) {
		for _, x := range l {
			if !yield(x) {
				return
			}
		}
	}
}

// digits finds what is wrong with how many digits tell registers apart.
func digits(bits int) error {
	if bits < api.MinBits || bits > api.MaxBits {
		return fault("too few digits, or too many")
	}
	return nil
}

// check finds what is wrong with registers, that are to be of one Bits.
func check(all ...api.Hll) error {
	var err error
sketches:
	for x := range each(all...) {
		if err = digits(x.Bits); err != nil {
			break sketches
		}
		if x.Bits != all[0].Bits || len(x.Regs) != 1<<x.Bits {
			err = fault("other registers than the digits tell apart")
			break sketches
		}
		for i := range 1 << x.Bits {
			if int(x.Regs[i]) > 65-x.Bits {
				err = fault("a rank that no number has")
				break sketches
			}
		}
	}
	return err
}
