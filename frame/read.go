package frame

import (
	"errors"
	"iter"
	"strconv"

	"aviary/api"
	"aviary/field"
)

// fault is what is wrong with a stream's bytes.
type fault struct {
	number api.Errno
}

// Error tells the fault's number.
func (f fault) Error() string {
	return "frame: error " + strconv.Itoa(int(f.number))
}

// errno is the number of what is wrong.
func errno(err error) api.Errno {
	var f fault
	if !errors.As(err, &f) {
		return api.OK
	}
	return f.number
}

// found is a frame's bytes, and what is behind it.
type found struct {
	bytes, rest string
}

// frames goes through the frames that s begins with. It ends only when it is left: what is wrong with what is left is told again and again.
func frames(s string) iter.Seq2[found, error] {
	return func(yield func(found, error) bool) {
		for f, err := read(s); yield(f, err); f, err = read(f.rest) {
		}
	}
}

// read reads the frame that s begins with; if there is none, all of s is what is behind.
func read(s string) (found, error) {
	var f found
	n, rest, err := head(s)
	if err != nil {
		goto out
	}
	if len(rest) < n+checkSize {
		err = fault{api.ErrMore}
		goto out
	}
	f = found{rest[:n], rest[n+checkSize:]}
	if spell(Check(f.bytes)) != rest[n:n+checkSize] {
		err = fault{api.ErrCheck}
		goto out
	}
	return f, nil
out:
	return found{rest: s}, err
}

// head reads what stands ahead of a frame's bytes: how many there are, and what is behind that.
func head(s string) (int, string, error) {
	if s == "" {
		return 0, "", fault{api.ErrMore}
	}
	if s[0] != api.Mark {
		return 0, "", fault{api.ErrFrame}
	}
	n, rest, e := field.Get(s[1:])
	if e == api.ErrMore {
		return 0, "", fault{api.ErrMore}
	}
	if e != api.OK || n < 1 || n > api.MaxFrame {
		return 0, "", fault{api.ErrFrame}
	}
	return int(n), rest, nil
}
