package ladder

import (
	"errors"
	"strconv"

	"aviary/api"
)

// fault is what is wrong with a sketch, with a kind or a level, or what a layer below tells.
type fault struct {
	number api.Errno
}

// Error tells the fault's number.
func (f fault) Error() string {
	return "ladder: error " + strconv.Itoa(int(f.number))
}

// wrong is what a number says is wrong, if it says so.
func wrong(e api.Errno) error {
	if e == api.OK {
		return nil
	}
	return fault{e}
}

// errno is the number of what is wrong.
func errno(err error) api.Errno {
	var f fault
	if !errors.As(err, &f) {
		return api.OK
	}
	return f.number
}

// isFull tells whether too many numbers for an exact set are what is wrong: of right ones nothing else can be.
func isFull(err error) bool {
	return errno(err) == api.ErrExact
}
