package hll_test

import (
	"fmt"
	"math"
	"math/big"
	"slices"
	"strings"
	"testing"

	"aviary/api"
	"aviary/hll"
)

const last = 1<<64 - 1

// regs are registers of these ranks, as they are, be they right or not.
func regs(bits int, ranks ...byte) api.Hll {
	return api.Hll{Bits: bits, Regs: string(ranks)}
}

// all are registers that all have one rank.
func all(bits int, rank byte) api.Hll {
	return regs(bits, slices.Repeat([]byte{rank}, 1<<bits)...)
}

// with is x with another rank in one register.
func with(x api.Hll, at int, rank byte) api.Hll {
	x.Regs = x.Regs[:at] + string([]byte{rank}) + x.Regs[at+1:]
	return x
}

// many has numbers of all sorts, the same ones in each run.
func many(n int) []uint64 {
	l := make([]uint64, n)
	x := uint64(1)
	for i := range l {
		x += 0x9e3779b97f4a7c15
		y := (x ^ x>>30) * 0xbf58476d1ce4e5b9
		y = (y ^ y>>27) * 0x94d049bb133111eb
		l[i] = y ^ y>>31
	}
	return l
}

// numbers has those at the edges of registers and of ranks, and some more.
func numbers() []uint64 {
	l := []uint64{0, last}
	for i := range 64 {
		n := uint64(1) << i
		l = append(l, n, n-1, n+1, ^n, -n, n|1<<63, n|n>>1)
	}
	for i := range uint64(256) {
		l = append(l, i<<56, i<<56+1, i<<56+1<<55, i<<56+1<<30, (i+1)<<56-1)
	}
	for i, n := range many(512) {
		l = append(l, n, n>>(i%64), n<<(i%64))
	}
	return l
}

// ranks has ranks of all sorts that registers of so many bits may have, the same ones in each run.
func ranks(bits int, sort int) api.Hll {
	l := make([]byte, 1<<bits)
	for i, n := range many(sort + len(l))[sort:] {
		l[i] = byte(n % uint64(66-bits))
		if sort%3 == 0 && n>>32%2 == 0 {
			l[i] = 0
		}
	}
	return regs(bits, l...)
}

// rights are registers of so many bits.
func rights(bits int) []api.Hll {
	top := byte(65 - bits)
	l := []api.Hll{all(bits, 0), all(bits, 1), all(bits, 2), all(bits, 31), all(bits, 32), all(bits, 33), all(bits, top-1), all(bits, top)}
	for i := range 1 << bits {
		l = append(l, with(all(bits, 0), i, top), with(all(bits, top), i, 0), with(all(bits, 5), i, 6))
	}
	for i := range 40 {
		l = append(l, ranks(bits, i))
	}
	return l
}

// wrongs are none: too few or too many digits, too few or too many registers, ranks that are too great.
func wrongs() []api.Hll {
	l := []api.Hll{{}, regs(1, 0, 0), regs(0, 0), regs(2, 0, 0, 0, 0), regs(2, 1, 2, 3, 4), regs(9, make([]byte, 512)...), regs(10, make([]byte, 1024)...), regs(16, make([]byte, 1<<16)...)}
	for _, bits := range []int{math.MinInt, -1 << 32, -64, -8, -5, -3, -1, 0, 1, 2, 9, 10, 11, 16, 32, 63, 64, 65, 67, 259, 1<<32 + 3, math.MaxInt} {
		l = append(l, regs(bits), regs(bits, 0), regs(bits, make([]byte, 8)...), regs(bits, make([]byte, 16)...), regs(bits, make([]byte, 256)...))
	}
	for bits := 3; bits <= 8; bits++ {
		for _, n := range []int{0, 1, 2, 4, 7, 8, 9, 15, 16, 17, 31, 32, 33, 63, 64, 65, 127, 128, 129, 255, 256, 257, 512, 100000} {
			if n != 1<<bits {
				l = append(l, regs(bits, make([]byte, n)...), regs(bits, slices.Repeat([]byte{9}, n)...))
			}
		}
		for i := range 1 << bits {
			for _, rank := range []byte{byte(66 - bits), byte(67 - bits), 64, 65, 127, 128, 255} {
				if int(rank) > 65-bits {
					l = append(l, with(ranks(bits, i), i, rank))
				}
			}
		}
		l = append(l, all(bits, byte(66-bits)), all(bits, 255))
	}
	return l
}

// place is the register and the rank, told from a number's digits as they are written.
func place(bits int, n uint64) (int, int) {
	s := fmt.Sprintf("%064b", n)
	at := 0
	for _, c := range s[:bits] {
		at = 2*at + int(c-'0')
	}
	if zeros := strings.IndexByte(s[bits:], '1'); zeros >= 0 {
		return at, zeros + 1
	}
	return at, 65 - bits
}

// wanted is the registers of all these numbers, told from them by place.
func wanted(bits int, parts ...[]uint64) api.Hll {
	l := make([]byte, 1<<bits)
	for _, part := range parts {
		for _, n := range part {
			if at, rank := place(bits, n); rank > int(l[at]) {
				l[at] = byte(rank)
			}
		}
	}
	return regs(bits, l...)
}

// merged is the greater ones of two's ranks.
func merged(x, y api.Hll) api.Hll {
	l := []byte(x.Regs)
	for i := range l {
		if y.Regs[i] > l[i] {
			l[i] = y.Regs[i]
		}
	}
	return regs(x.Bits, l...)
}

// lowered is the registers of one digit less, each the greatest of what is told by the two that it is made of.
func lowered(x api.Hll) api.Hll {
	l := make([]byte, len(x.Regs)/2)
	for i, rank := range []byte(x.Regs) {
		told := byte(0)
		switch {
		case rank > 0 && i%2 == 0:
			told = rank + 1
		case rank > 0:
			told = 1
		}
		if told > l[i/2] {
			l[i/2] = told
		}
	}
	return regs(x.Bits-1, l...)
}

// count is how many numbers there are, about, worked out by whole numbers of any length.
func count(x api.Hll) uint64 {
	two := func(n int) *big.Int { return new(big.Int).Lsh(big.NewInt(1), uint(n)) }
	s, none := new(big.Int), true
	for _, rank := range []byte(x.Regs) {
		s.Add(s, two(max(32-int(rank), 0)))
		none = none && rank == 0
	}
	if none {
		return 0
	}
	m := big.NewInt(int64(len(x.Regs)))
	n := new(big.Int).Mul(m, m)
	n.Mul(n, big.NewInt(7)).Mul(n, two(32))
	return n.Div(n, s.Mul(s, big.NewInt(10))).Uint64()
}

// short is what v looks like, up to a length that can be read.
func short(v any) string {
	s := fmt.Sprintf("%x", v)
	return s[:min(len(s), 300)]
}

// same tells what is wrong, if registers and an error are others than those that are wanted.
func same(t *testing.T, what any, x api.Hll, e api.Errno, want api.Hll, f api.Errno) {
	t.Helper()
	if x != want || e != f {
		t.Errorf("%s: %d %x, %d, not %d %x, %d", short(what), x.Bits, x.Regs, e, want.Bits, want.Regs, f)
	}
	if e == api.OK && !hll.Right(x) {
		t.Errorf("%s: %d %x is not right", short(what), x.Bits, x.Regs)
	}
}

// P7.1: what is registers.
func TestRight(t *testing.T) {
	for bits := 3; bits <= 8; bits++ {
		for _, x := range rights(bits) {
			if !hll.Right(x) {
				t.Errorf("%d %x", x.Bits, x.Regs)
			}
		}
		for i := range 1 << bits {
			for rank := range 256 {
				if want := rank <= 65-bits; hll.Right(with(all(bits, 1), i, byte(rank))) != want {
					t.Errorf("%d bits, register %d, %d: not %v", bits, i, rank, want)
				}
			}
		}
	}
}

// P7.1, P7.2: what is none is refused, by whatever it is handed to, and counts nothing.
func TestNotRight(t *testing.T) {
	for _, x := range wrongs() {
		if hll.Right(x) || hll.Count(x) != 0 {
			t.Errorf("%s: %v, %d", short(x), hll.Right(x), hll.Count(x))
		}
		for _, n := range []uint64{0, 1, 1 << 63, last} {
			y, e := hll.Add(x, n)
			same(t, []any{x, n}, y, e, api.Hll{}, api.ErrHll)
		}
		y, e := hll.Lower(x)
		same(t, x, y, e, api.Hll{}, api.ErrHll)
		for _, y := range []api.Hll{{}, x, all(3, 0), all(3, 62), all(4, 1), all(8, 57), all(max(3, min(x.Bits, 8)), 1)} {
			z, e := hll.Merge(x, y)
			same(t, []any{x, y}, z, e, api.Hll{}, api.ErrHll)
			z, e = hll.Merge(y, x)
			same(t, []any{y, x}, z, e, api.Hll{}, api.ErrHll)
		}
	}
}

// P7.1: registers of no numbers, of 3 to 8 digits; of no other ones, whatever the numbers.
func TestNew(t *testing.T) {
	all := []int{math.MinInt, math.MinInt + 3, -1 << 32, -1<<32 + 3, 1<<32 + 3, 1<<62 + 8, math.MaxInt}
	for bits := -300; bits <= 300; bits++ {
		all = append(all, bits)
	}
	for _, bits := range all {
		want, f := api.Hll{}, api.ErrHll
		if bits >= 3 && bits <= 8 {
			want, f = regs(bits, make([]byte, 1<<bits)...), api.OK
		}
		x, e := hll.New(bits)
		same(t, bits, x, e, want, f)
		for _, l := range [][]uint64{nil, {}} {
			x, e = hll.Of(bits, l)
			same(t, bits, x, e, want, f)
		}
		if f == api.OK {
			continue
		}
		x, e = hll.Of(bits, []uint64{0, 1, last})
		same(t, bits, x, e, want, f)
		for _, n := range []uint64{0, 1, 5, 1 << 63, last} {
			if at, rank := hll.Place(bits, n); at != 0 || rank != 0 {
				t.Errorf("%d bits, %d: %d, %d", bits, n, at, rank)
			}
		}
	}
}

// P7.1: the chapter's example, both ends, and numbers of all sorts, told by their digits.
func TestPlace(t *testing.T) {
	for _, x := range []struct {
		bits     int
		n        uint64
		at, rank int
	}{
		{3, 1 << 63, 4, 62}, {3, 1<<61 + 1<<60, 1, 1}, {3, 0, 0, 62}, {3, 1, 0, 61}, {3, last, 7, 1}, {3, 7 << 61, 7, 62}, {3, 1 << 60, 0, 1}, {3, 1 << 61, 1, 62},
		{4, 1 << 60, 1, 61}, {4, 1 << 59, 0, 1}, {5, 1 << 63, 16, 60}, {8, 0, 0, 57}, {8, last, 255, 1}, {8, 1, 0, 56}, {8, 255 << 56, 255, 57}, {8, 1 << 56, 1, 57}, {8, 1<<56 + 1, 1, 56}, {8, 1 << 55, 0, 1},
	} {
		if at, rank := hll.Place(x.bits, x.n); at != x.at || rank != x.rank {
			t.Errorf("%d bits, %x: %d, %d, not %d, %d", x.bits, x.n, at, rank, x.at, x.rank)
		}
	}
	for bits := 3; bits <= 8; bits++ {
		for _, n := range numbers() {
			want, most := place(bits, n)
			if at, rank := hll.Place(bits, n); at != want || rank != most {
				t.Errorf("%d bits, %x: %d, %d, not %d, %d", bits, n, at, rank, want, most)
			}
		}
	}
}

// P7.1: a number more tells one register its rank, and no other one.
func TestAdd(t *testing.T) {
	l := numbers()
	for bits := 3; bits <= 8; bits++ {
		for i, x := range rights(bits) {
			for j := i % 64; j < len(l); j += 64 {
				want, at := x, 0
				if i, rank := place(bits, l[j]); rank > int(x.Regs[i]) {
					want, at = with(x, i, byte(rank)), i
				}
				y, e := hll.Add(x, l[j])
				same(t, []any{x, l[j], at}, y, e, want, api.OK)
			}
		}
		for i := range 1 << bits {
			for rank := 1; rank <= 65-bits; rank++ {
				n := uint64(i) << (64 - bits)
				if rank < 65-bits {
					n += 1 << (64 - bits - rank)
				}
				for _, ahead := range []int{0, rank - 1, rank, rank + 1, 65 - bits} {
					x := with(ranks(bits, i), i, byte(min(ahead, 65-bits)))
					y, e := hll.Add(x, n)
					same(t, []any{x, n}, y, e, with(x, i, max(x.Regs[i], byte(rank))), api.OK)
				}
			}
		}
	}
}

// P7.1: numbers tell registers their ranks, the greatest ones stay.
func TestOf(t *testing.T) {
	x, e := hll.Of(3, []uint64{1 << 63, 1<<61 + 1<<60, 0})
	same(t, "the example", x, e, regs(3, 62, 1, 0, 0, 62, 0, 0, 0), api.OK)
	x, e = hll.Of(3, []uint64{0, 1 << 63, 1<<63 + 1, 1<<61 + 1<<60})
	same(t, "a lesser rank", x, e, regs(3, 62, 1, 0, 0, 62, 0, 0, 0), api.OK)
	for bits := 3; bits <= 8; bits++ {
		for _, l := range [][]uint64{{0}, {1}, {last}, {0, last}, {1 << 63}, {1<<63 - 1}, numbers(), many(1), many(10), many(100), many(100000), slices.Repeat([]uint64{7}, 100000), slices.Repeat(many(3), 1000)} {
			x, e := hll.Of(bits, l)
			same(t, []any{bits, l}, x, e, wanted(bits, l), api.OK)
			slices.Reverse(l)
			x, e = hll.Of(bits, l)
			same(t, []any{bits, l}, x, e, wanted(bits, l), api.OK)
		}
		for _, n := range numbers() {
			x, e := hll.Of(bits, []uint64{n})
			at, rank := place(bits, n)
			same(t, []any{bits, n}, x, e, with(all(bits, 0), at, byte(rank)), api.OK)
		}
	}
}

// P7.2: of each register the greater rank, whichever of the two has it.
func TestMerge(t *testing.T) {
	for bits := 3; bits <= 8; bits++ {
		l := rights(bits)
		for i, x := range l {
			for j := i % 7; j < len(l); j += 7 {
				z, e := hll.Merge(x, l[j])
				same(t, []any{x, l[j]}, z, e, merged(x, l[j]), api.OK)
			}
			z, e := hll.Merge(x, x)
			same(t, x, z, e, x, api.OK)
			z, e = hll.Merge(x, all(bits, 0))
			same(t, x, z, e, x, api.OK)
			z, e = hll.Merge(all(bits, byte(65-bits)), x)
			same(t, x, z, e, all(bits, byte(65-bits)), api.OK)
		}
	}
	for a := range byte(63) {
		for b := range byte(63) {
			z, e := hll.Merge(with(all(3, 1), 5, a), with(all(3, 1), 5, b))
			same(t, []byte{a, b}, z, e, with(all(3, 1), 5, max(a, b)), api.OK)
		}
	}
}

// P7.2: two of different Bits are not merged, be they ever so right.
func TestMergeOfOthers(t *testing.T) {
	for a := 3; a <= 8; a++ {
		for b := 3; b <= 8; b++ {
			if a == b {
				continue
			}
			for _, rank := range []byte{0, 1, 57} {
				z, e := hll.Merge(all(a, rank), all(b, rank))
				same(t, []any{a, b}, z, e, api.Hll{}, api.ErrHll)
			}
			z, e := hll.Merge(regs(a, make([]byte, 1<<b)...), all(b, 0))
			same(t, []any{a, b}, z, e, api.Hll{}, api.ErrHll)
			z, e = hll.Merge(all(a, 0), regs(a, make([]byte, 1<<b)...))
			same(t, []any{a, b}, z, e, api.Hll{}, api.ErrHll)
		}
	}
}

// P7.2: a digit less: two registers are made one.
func TestLower(t *testing.T) {
	for bits := 4; bits <= 8; bits++ {
		for _, x := range rights(bits) {
			y, e := hll.Lower(x)
			same(t, x, y, e, lowered(x), api.OK)
		}
		for a := range 66 - bits {
			for b := range 66 - bits {
				at := 2 * ((a + b) % (1 << (bits - 1)))
				x := with(with(ranks(bits, a), at, byte(a)), at+1, byte(b))
				y, e := hll.Lower(x)
				same(t, x, y, e, lowered(x), api.OK)
				want := byte(0)
				if b > 0 {
					want = 1
				}
				if a > 0 {
					want = byte(a + 1)
				}
				if y.Regs[at/2] != want {
					t.Errorf("%d bits, %d, %d: %d", bits, a, b, y.Regs[at/2])
				}
			}
		}
	}
	y, e := hll.Lower(regs(4, 61, 61, 0, 61, 0, 1, 1, 0, 1, 61, 0, 0, 2, 3, 3, 2))
	same(t, "16 registers", y, e, regs(3, 62, 1, 1, 2, 2, 0, 3, 4), api.OK)
	for _, x := range rights(3) {
		y, e := hll.Lower(x)
		same(t, x, y, e, api.Hll{}, api.ErrHll)
	}
}

// P7.2: how many there are, about; a rest falls away.
func TestCount(t *testing.T) {
	for _, x := range []struct {
		of api.Hll
		n  uint64
	}{
		{all(3, 0), 0}, {all(8, 0), 0},
		{all(3, 1), 11}, {all(3, 2), 22}, {all(4, 1), 22}, {all(8, 1), 358}, {with(all(3, 0), 0, 1), 5}, {with(all(3, 0), 7, 62), 6}, {with(all(8, 0), 255, 1), 179},
		{regs(3, 62, 1, 0, 0, 62, 0, 0, 0), 8},
		{all(3, 31), 12025908428}, {all(3, 32), 24051816857}, {all(3, 33), 24051816857}, {all(3, 62), 24051816857}, {all(8, 32), 769658139443}, {all(8, 57), 769658139443},
	} {
		if n := hll.Count(x.of); n != x.n {
			t.Errorf("%d %x: %d, not %d", x.of.Bits, x.of.Regs, n, x.n)
		}
	}
	for bits := 3; bits <= 8; bits++ {
		for _, x := range rights(bits) {
			if n := hll.Count(x); n != count(x) {
				t.Errorf("%d %x: %d, not %d", x.Bits, x.Regs, n, count(x))
			}
		}
		for rank := range byte(66 - bits) {
			for _, x := range []api.Hll{all(bits, rank), with(all(bits, rank), 3, 0), with(all(bits, 0), 1<<bits-1, rank), with(all(bits, 40), 2, rank)} {
				if n := hll.Count(x); n != count(x) {
					t.Errorf("%d %x: %d, not %d", x.Bits, x.Regs, n, count(x))
				}
			}
		}
	}
}

// P7.3: in whatever order numbers come, one by one or all at once, the registers are the same.
func TestOrders(t *testing.T) {
	for bits := 3; bits <= 8; bits++ {
		l := append(numbers(), many(2000)...)
		for turn := range 4 {
			slices.SortFunc(l, func(a, b uint64) int {
				a, b = a*[]uint64{1, last, 12345, 987654321}[turn], b*[]uint64{1, last, 12345, 987654321}[turn]
				switch {
				case a < b:
					return -1
				case a > b:
					return 1
				}
				return 0
			})
			x, e := hll.New(bits)
			for i, n := range l {
				var f api.Errno
				if x, f = hll.Add(x, n); e != api.OK || f != api.OK || i%500 == 0 && x != wanted(bits, l[:i+1]) {
					t.Errorf("%d bits, %d numbers: %x, %d, %d", bits, i+1, x.Regs, e, f)
				}
			}
			same(t, []any{bits, turn}, x, e, wanted(bits, l), api.OK)
		}
	}
}

// P7.3: merged registers are those of both's numbers, in whatever parts and order these are.
func TestParts(t *testing.T) {
	for bits := 3; bits <= 8; bits++ {
		for _, l := range [][]uint64{many(300), numbers()[:500], slices.Repeat(many(5), 12), {0, last}} {
			for _, size := range []int{1, 2, 3, 7, 64, 299, 1000} {
				forth, e := hll.New(bits)
				back := forth
				for part := range slices.Chunk(l, size) {
					x, f := hll.Of(bits, part)
					var g, h api.Errno
					forth, g = hll.Merge(forth, x)
					back, h = hll.Merge(x, back)
					if e != api.OK || f != api.OK || g != api.OK || h != api.OK {
						t.Errorf("%d bits, by %d: %d, %d, %d, %d", bits, size, e, f, g, h)
					}
				}
				same(t, []any{bits, size, "forth"}, forth, e, wanted(bits, l), api.OK)
				same(t, []any{bits, size, "back"}, back, e, wanted(bits, l), api.OK)
			}
		}
	}
}

// P7.3: lowered registers are those of the same numbers with digits less, whenever they are lowered.
func TestLowered(t *testing.T) {
	n := numbers()
	for _, l := range [][]uint64{nil, {0}, {last}, {1 << 56}, {1 << 55}, {1 << 60}, {1<<60 + 1<<59}, {1 << 61, 1 << 60, 1 << 59}, many(3), many(40), many(5000), n, n[:100], n[400:700]} {
		for bits := 8; bits > 3; bits-- {
			x, e := hll.Of(bits, l)
			for lower := bits - 1; lower >= 3; lower-- {
				if x, e = hll.Lower(x); e != api.OK {
					break
				}
				same(t, []any{bits, lower, l}, x, e, wanted(lower, l), api.OK)
			}
		}
		half := len(l) / 2
		x, e := hll.Of(6, l[:half])
		y, f := hll.Of(6, l[half:])
		first, g := hll.Merge(x, y)
		first, h := hll.Lower(first)
		x, i := hll.Lower(x)
		y, j := hll.Lower(y)
		then, k := hll.Merge(y, x)
		if slices.Max([]api.Errno{e, f, g, h, i, j, k}) != api.OK || first != then || first != wanted(5, l) {
			t.Errorf("%s: merged and lowered %x, lowered and merged %x", short(l), first.Regs, then.Regs)
		}
	}
	for _, n := range numbers() {
		for bits := 4; bits <= 8; bits++ {
			x, e := hll.Of(bits, []uint64{n})
			y, f := hll.Lower(x)
			same(t, []any{bits, n}, y, max(e, f), wanted(bits-1, []uint64{n}), api.OK)
		}
	}
}

// Rules R3 and R4: what is handed in is neither written into nor kept, nor is its spare room; a call answers the same again.
func TestOnesOwn(t *testing.T) {
	room := slices.Repeat([]uint64{77}, 200)
	copy(room[50:], many(60))
	ahead := slices.Clone(room)
	l := room[50:110]
	x, e := hll.Of(5, l)
	y, f := hll.Of(5, l)
	same(t, "twice", x, e, y, f)
	if !slices.Equal(room, ahead) {
		t.Error("numbers, or what is beside them, are not as they were")
	}
	want := wanted(5, l)
	clear(room)
	same(t, "numbers that are gone", x, e, want, api.OK)
	before := x
	a, e := hll.Add(x, 1<<63)
	m, f := hll.Merge(x, a)
	w, g := hll.Lower(m)
	if x != before || max(e, f, g) != api.OK {
		t.Errorf("%x, %x, %x, %x: %d, %d, %d", x.Regs, a.Regs, m.Regs, w.Regs, e, f, g)
	}
	again, e := hll.Add(x, 1<<63)
	same(t, "again", again, e, a, api.OK)
	if hll.Count(x) != hll.Count(before) {
		t.Error("another count")
	}
}
