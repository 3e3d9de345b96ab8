package frame

// modulus is what both halves of a check are below.
const modulus = 65521

// checkSize is how many bytes a check has.
const checkSize = 4

// halves are A and B, of a check.
type halves struct {
	a, b uint32
}

// checker is a check that is being worked out.
type checker struct {
	halves
}

// begin is a check of nothing yet.
func begin() checker {
	return checker{halves{a: 1}}
}

// take works bytes in.
func (c *checker) take(l ...byte) {
	for _, x := range l {
		c.a = plus(c.a, uint32(x))
		c.b = plus(c.b, c.a)
	}
}

// sum is the check of what was taken.
func (c *checker) sum() uint32 {
	return c.b<<16 | c.a
}

// plus is x and y, modulo modulus; as both of them are below it, one step back is enough.
func plus(x, y uint32) uint32 {
	n := x + y
	if n >= modulus {
		n -= modulus
	}
	return n
}

// spell has a check's bytes, the greatest one first.
func spell(check uint32) string {
	var b [checkSize]byte
	for i := range b {
		b[i] = byte(check >> (8 * (checkSize - 1 - i)))
	}
	return string(b[:])
}
