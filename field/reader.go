package field

import (
	"errors"
	"iter"

	"aviary/api"
)

// What is wrong with bytes that are read.
var (
	errMore  = errors.New("field: bytes are missing")
	errField = errors.New("field: these are no field's bytes")
)

// left is what is not read yet.
type left struct {
	rest string
}

// bytes goes through what is left, and leaves it there: how much of it is read is known only at the end of a number.
func (l *left) bytes() iter.Seq2[int, byte] {
	return func(yield func(int, byte) bool) {
		for i := range len(l.rest) {
			if !yield(i, l.rest[i]) {
				return
			}
		}
	}
}

// take reads as many bytes.
func (l *left) take(n int) (string, error) {
	if n > len(l.rest) {
		return "", errMore
	}
	s := l.rest[:n]
	l.rest = l.rest[n:]
	return s, nil
}

// reader reads bytes, from the first one on.
type reader struct {
	left
	whole string
}

// readerOf has read nothing yet.
func readerOf(s string) reader {
	return reader{left{s}, s}
}

// end is what is behind all that was read, or all of it again, if something was wrong.
func (r *reader) end(err error) (string, api.Errno) {
	e := errno(err)
	if e != api.OK {
		return r.whole, e
	}
	return r.rest, e
}

// number reads a number.
func (r *reader) number() (uint64, error) {
	var n uint64
	var first byte
	size := 1
bytes:
	for i, b := range r.bytes() {
		switch i {
		case 0:
			first, size = b, 1+follow(b)
		case size:
			break bytes
		default:
			n = n<<8 | uint64(b)
		}
	}
	if _, err := r.take(size); err != nil {
		return 0, err
	}
	switch {
	case first > two:
		// What stands behind such a byte is the number, whole.
	case first > alone:
		n += uint64(first-alone-1) << 8
		first = alone
		fallthrough
	default:
		n += uint64(first)
	}
	if len(Put(n)) < size {
		return 0, errField
	}
	return n, nil
}

// count reads how many there are, at most as many.
func (r *reader) count(most uint64) (int, error) {
	n, err := r.number()
	if err != nil {
		return 0, err
	}
	if n > most {
		return 0, errField
	}
	return int(n), nil
}

// text reads a text.
func (r *reader) text() (string, error) {
	n, err := r.count(api.MaxText)
	if err != nil {
		return "", err
	}
	return r.take(n)
}

// list reads a list.
func (r *reader) list() ([]string, error) {
	var l []string
	var s string
	n, err := r.count(api.MaxList)
	if err != nil {
		goto out
	}
	for range n {
		if s, err = r.text(); err != nil {
			goto out
		}
		l = append(l, s)
	}
	return l, nil
out:
	return nil, err
}
