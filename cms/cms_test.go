package cms_test

import (
	"fmt"
	"math"
	"math/big"
	"slices"
	"testing"

	"aviary/api"
	"aviary/cms"
)

const last = 1<<64 - 1

// item is a number, and how often it is added.
type item struct {
	h, n uint64
}

// of is these counters, as they are, be they right or not.
func of(rows, cols int, l ...uint64) api.Cms {
	return api.Cms{Rows: rows, Cols: cols, L: l}
}

// all are counters that are all n.
func all(rows, cols int, n uint64) api.Cms {
	return of(rows, cols, slices.Repeat([]uint64{n}, rows*cols)...)
}

// with is x with another counter at a place.
func with(x api.Cms, at int, n uint64) api.Cms {
	x.L = slices.Clone(x.L)
	x.L[at] = n
	return x
}

// many has numbers of all sorts, the same ones in each run.
func many(n int) []uint64 {
	l := make([]uint64, n)
	x := uint64(1)
	for i := range l {
		x += 0x9e3779b97f4a7c15
		y := (x ^ x>>30) * 0xbf58476d1ce4e5b9
		y = (y ^ y>>27) * 0x94d049bb133111eb
		l[i] = y ^ y>>31
	}
	return l
}

// numbers has those whose halves are at the edges of columns and of their own, and some more.
func numbers() []uint64 {
	halves := []uint64{0, 1, 2, 3, 4, 5, 7, 8, 15, 16, 31, 32, 33, 1<<31 - 1, 1 << 31, 1<<32 - 32, 1<<32 - 4, 1<<32 - 2, 1<<32 - 1}
	l := many(100)
	for _, a := range halves {
		for _, b := range halves {
			l = append(l, a<<32+b)
		}
	}
	for i := range 64 {
		l = append(l, 1<<i, 1<<i-1)
	}
	return l
}

// shapes are all rows and columns that there may be.
func shapes() [][2]int {
	var l [][2]int
	for rows := 1; rows <= 4; rows++ {
		for _, cols := range []int{4, 8, 16, 32} {
			l = append(l, [2]int{rows, cols})
		}
	}
	return l
}

// mixed are counters of all sorts, some of them 0, or about to be saturated; the same ones in each run.
func mixed(rows, cols int, sort int) api.Cms {
	l := many(sort + rows*cols)[sort:]
	for i, n := range l {
		switch n % 5 {
		case 0:
			l[i] = 0
		case 1:
			l[i] = last - n>>60
		case 2:
			l[i] = n >> 60
		}
	}
	return of(rows, cols, l...)
}

// rights are counters of so many rows and columns.
func rights(rows, cols int) []api.Cms {
	l := []api.Cms{all(rows, cols, 0), all(rows, cols, 1), all(rows, cols, 1<<63-1), all(rows, cols, 1<<63), all(rows, cols, last-1), all(rows, cols, last)}
	for i := range rows * cols {
		l = append(l, with(all(rows, cols, 0), i, last), with(all(rows, cols, last), i, 0), with(all(rows, cols, 7), i, 6))
	}
	for i := range 20 {
		l = append(l, mixed(rows, cols, i))
	}
	return l
}

// wrongs are none: too few or too many rows, columns that there are not, too few or too many counters.
func wrongs() []api.Cms {
	l := []api.Cms{{}, of(1, 0), of(0, 4), of(0, 0, 0), of(-1, -4, 1, 2, 3, 4), of(-2, -2, 1, 2, 3, 4), of(4, 1, 1, 2, 3, 4), of(2, 2, 1, 2, 3, 4), of(1, 4), of(1, 4, 1), of(2, 4, 1, 2, 3, 4)}
	for _, rows := range []int{math.MinInt, math.MinInt + 1, -1 << 32, -4, -1, 0, 1, 2, 3, 4, 5, 6, 8, 64, 1 << 32, 1<<32 + 1, 1 << 58, 1 << 62, math.MaxInt} {
		for _, cols := range []int{math.MinInt, math.MinInt + 4, -1 << 32, -32, -8, -4, -1, 0, 1, 2, 3, 4, 5, 6, 7, 8, 9, 12, 15, 16, 17, 20, 24, 31, 32, 33, 36, 48, 64, 128, 256, 1 << 32, 1<<32 + 4, 1 << 60, 1 << 62, math.MaxInt} {
			if rows >= 1 && rows <= 4 && (cols == 4 || cols == 8 || cols == 16 || cols == 32) {
				continue
			}
			l = append(l, of(rows, cols), of(rows, cols, 1, 2, 3, 4))
			if n := rows * cols; n > 0 && n <= 4096 {
				l = append(l, of(rows, cols, make([]uint64, n)...), of(rows, cols, many(n)...))
			}
		}
	}
	for _, s := range shapes() {
		size := s[0] * s[1]
		for _, n := range []int{0, 1, 2, 3, s[0], s[1], s[1] - 1, size - s[1], size - s[0], size / 2, size - 1, size + 1, size + s[1], 2 * size, 129, 1000} {
			if n != size {
				l = append(l, of(s[0], s[1], make([]uint64, n)...), of(s[0], s[1], many(n)...))
			}
		}
	}
	return l
}

// column is the one that h tells, worked out by whole numbers of any length.
func column(cols, row int, h uint64) int {
	a, b := new(big.Int).DivMod(new(big.Int).SetUint64(h), big.NewInt(1<<32), new(big.Int))
	b.Mul(b, big.NewInt(int64(row)))
	return int(b.Mod(b.Add(b, a), big.NewInt(int64(cols))).Int64())
}

// saturated is all these numbers together, but at most 2^64-1.
func saturated(l ...uint64) uint64 {
	sum := new(big.Int)
	for _, n := range l {
		sum.Add(sum, new(big.Int).SetUint64(n))
	}
	if !sum.IsUint64() {
		return last
	}
	return sum.Uint64()
}

// wanted is the counters of x and of all items, saturated when all are there.
func wanted(x api.Cms, items ...item) api.Cms {
	told := make([][]uint64, len(x.L))
	for i, n := range x.L {
		told[i] = []uint64{n}
	}
	for _, i := range items {
		for row := range x.Rows {
			at := row*x.Cols + column(x.Cols, row, i.h)
			told[at] = append(told[at], i.n)
		}
	}
	l := make([]uint64, len(told))
	for i := range told {
		l[i] = saturated(told[i]...)
	}
	return of(x.Rows, x.Cols, l...)
}

// merged is both's counters together.
func merged(x, y api.Cms) api.Cms {
	l := make([]uint64, len(x.L))
	for i := range l {
		l[i] = saturated(x.L[i], y.L[i])
	}
	return of(x.Rows, x.Cols, l...)
}

// lowered is the counters of half as many columns, each told the ones of x that it is made of.
func lowered(x api.Cms) api.Cms {
	low := all(x.Rows, x.Cols/2, 0)
	for i, n := range x.L {
		row, col := i/x.Cols, i%x.Cols
		at := row*low.Cols + col%low.Cols
		low.L[at] = saturated(low.L[at], n)
	}
	return low
}

// equal tells whether two are the same, field by field.
func equal(x, y api.Cms) bool {
	return x.Rows == y.Rows && x.Cols == y.Cols && slices.Equal(x.L, y.L)
}

// items are these numbers, added so often, by turns.
func items(h []uint64, often ...uint64) []item {
	l := make([]item, len(h))
	for i := range l {
		l[i] = item{h[i], often[i%len(often)]}
	}
	return l
}

// added is x with items, added one by one.
func added(t *testing.T, x api.Cms, items ...item) api.Cms {
	t.Helper()
	for _, i := range items {
		y, e := cms.Add(x, i.h, i.n)
		if e != api.OK {
			t.Fatalf("%s, %x, %d: %d", short(x), i.h, i.n, e)
		}
		x = y
	}
	return x
}

// short is what v looks like, up to a length that can be read.
func short(v any) string {
	s := fmt.Sprint(v)
	return s[:min(len(s), 300)]
}

// same tells what is wrong, if counters and an error are others than those that are wanted.
func same(t *testing.T, what any, x api.Cms, e api.Errno, want api.Cms, f api.Errno) {
	t.Helper()
	if !equal(x, want) || e != f {
		t.Errorf("%s: %s, %d, not %s, %d", short(what), short(x), e, short(want), f)
	}
	if e == api.OK && !cms.Right(x) {
		t.Errorf("%s: %s is not right", short(what), short(x))
	}
}

// P8.1: what is counters, whatever numbers they are.
func TestRight(t *testing.T) {
	for _, s := range shapes() {
		for _, x := range rights(s[0], s[1]) {
			if !cms.Right(x) {
				t.Error(short(x))
			}
		}
		for n := range 300 {
			if want := n == s[0]*s[1]; cms.Right(of(s[0], s[1], make([]uint64, n)...)) != want {
				t.Errorf("%v, %d counters: not %v", s, n, want)
			}
		}
	}
}

// P8.1, P8.2: what is none is refused, by whatever it is handed to, and tells and counts nothing.
func TestNotRight(t *testing.T) {
	for _, x := range wrongs() {
		if cms.Right(x) {
			t.Error(short(x))
		}
		for _, h := range []uint64{0, 1, 1 << 32, 1<<32 + 1, 3 << 32, last} {
			if n := cms.Count(x, h); n != 0 {
				t.Errorf("%s, %x: %d", short(x), h, n)
			}
			for _, row := range []int{-1, 0, 1, 2, 3, 4, x.Rows - 1, x.Rows} {
				if col := cms.Col(x, row, h); col != 0 {
					t.Errorf("%s, %d, %x: %d", short(x), row, h, col)
				}
			}
			for _, n := range []uint64{0, 1, last} {
				y, e := cms.Add(x, h, n)
				same(t, x, y, e, api.Cms{}, api.ErrCms)
			}
		}
		y, e := cms.Lower(x)
		same(t, x, y, e, api.Cms{}, api.ErrCms)
		for _, y := range []api.Cms{{}, x, all(1, 4, 0), all(2, 4, 1), all(4, 32, last), all(max(1, min(x.Rows, 4)), 4, 1), all(1, 4<<(uint(x.Cols)%4), 1)} {
			z, e := cms.Merge(x, y)
			same(t, x, z, e, api.Cms{}, api.ErrCms)
			z, e = cms.Merge(y, x)
			same(t, x, z, e, api.Cms{}, api.ErrCms)
		}
	}
}

// P8.1: counters of no numbers, of 1 to 4 rows and of 4, 8, 16 or 32 columns; no other ones.
func TestNew(t *testing.T) {
	edges := []int{math.MinInt, math.MinInt + 4, -1 << 32, -1<<32 + 4, 1 << 31, 1 << 32, 1<<32 + 1, 1<<32 + 4, 1 << 60, 1 << 62, 1<<62 + 4, math.MaxInt}
	some := slices.Clone(edges)
	for n := -70; n <= 300; n++ {
		some = append(some, n)
	}
	for _, rows := range append(edges, -4, -3, -2, -1, 0, 1, 2, 3, 4, 5, 6, 7, 8, 16, 32) {
		for _, cols := range some {
			want, f := api.Cms{}, api.ErrCms
			if rows >= 1 && rows <= 4 && (cols == 4 || cols == 8 || cols == 16 || cols == 32) {
				want, f = of(rows, cols, make([]uint64, rows*cols)...), api.OK
			}
			x, e := cms.New(rows, cols)
			same(t, []int{rows, cols}, x, e, want, f)
		}
	}
}

// P8.1: the chapter's example, both ends, and numbers of all sorts; 0 of a row that there is not.
func TestCol(t *testing.T) {
	for _, x := range []struct {
		cols, row int
		h         uint64
		col       int
	}{
		{4, 0, 5<<32 + 3, 1}, {4, 1, 5<<32 + 3, 0}, {4, 2, 5<<32 + 3, 3}, {4, 3, 5<<32 + 3, 2},
		{32, 0, 5<<32 + 3, 5}, {32, 1, 5<<32 + 3, 8}, {32, 2, 5<<32 + 3, 11}, {32, 3, 5<<32 + 3, 14},
		{32, 0, 0, 0}, {32, 3, 0, 0}, {32, 0, last, 31}, {32, 1, last, 30}, {32, 2, last, 29}, {32, 3, last, 28}, {8, 3, last, 4},
		{16, 0, 31 << 32, 15}, {16, 3, 31 << 32, 15}, {16, 0, 31, 0}, {16, 1, 31, 15}, {16, 2, 31, 14}, {16, 3, 31, 13},
	} {
		if col := cms.Col(all(4, x.cols, 9), x.row, x.h); col != x.col {
			t.Errorf("%d columns, row %d, %x: %d, not %d", x.cols, x.row, x.h, col, x.col)
		}
	}
	x := all(2, 4, 0)
	if cms.Col(x, 0, 5<<32+3) != 1 || cms.Col(x, 1, 5<<32+3) != 0 {
		t.Error("the example")
	}
	for _, s := range shapes() {
		for i, h := range numbers() {
			x := mixed(s[0], s[1], i%7)
			for row := range s[0] {
				if col, want := cms.Col(x, row, h), column(s[1], row, h); col != want {
					t.Errorf("%v, row %d, %x: %d, not %d", s, row, h, col, want)
				}
			}
			for _, row := range []int{math.MinInt, -1 << 32, -4, -2, -1, s[0], s[0] + 1, 5, 7, 1 << 32, 1<<32 + 1, math.MaxInt} {
				if col := cms.Col(x, row, h); col != 0 {
					t.Errorf("%v, row %d, %x: %d", s, row, h, col)
				}
			}
		}
	}
}

// P8.1: in each row one counter has more, and no other one.
func TestAdd(t *testing.T) {
	x, e := cms.Add(all(2, 4, 0), 5<<32+3, 7)
	same(t, "the example", x, e, of(2, 4, 0, 7, 0, 0, 7, 0, 0, 0), api.OK)
	x, e = cms.Add(x, 5<<32+3, 1)
	same(t, "once more", x, e, of(2, 4, 0, 8, 0, 0, 8, 0, 0, 0), api.OK)
	x, e = cms.Add(x, 1<<32, 2)
	same(t, "another one", x, e, of(2, 4, 0, 10, 0, 0, 8, 2, 0, 0), api.OK)
	for _, s := range shapes() {
		l := numbers()
		for i, x := range rights(s[0], s[1]) {
			for j := i % 32; j < len(l); j += 32 {
				for _, n := range []uint64{0, 1, 2, 1 << 32, 1<<63 - 1, 1 << 63, last - 1, last} {
					y, e := cms.Add(x, l[j], n)
					same(t, []any{x, l[j], n}, y, e, wanted(x, item{l[j], n}), api.OK)
				}
			}
		}
		for _, h := range l {
			x, e := cms.Add(all(s[0], s[1], 0), h, 1)
			same(t, []any{s, h}, x, e, wanted(all(s[0], s[1], 0), item{h, 1}), api.OK)
		}
	}
}

// P8.1: a counter that has all that it can have stays so, and takes nothing from others.
func TestSaturated(t *testing.T) {
	edges := []uint64{0, 1, 2, 1<<63 - 1, 1 << 63, 1<<63 + 1, last - 2, last - 1, last}
	for _, a := range edges {
		for _, b := range edges {
			x := with(all(1, 4, 3), 2, a)
			want := with(x, 2, saturated(a, b))
			y, e := cms.Add(x, 2<<32, b)
			same(t, []uint64{a, b}, y, e, want, api.OK)
			y, e = cms.Merge(x, with(all(1, 4, 0), 2, b))
			same(t, []uint64{a, b}, y, e, want, api.OK)
			wide := with(with(all(1, 8, 1), 2, a), 6, b)
			y, e = cms.Lower(wide)
			same(t, []uint64{a, b}, y, e, with(all(1, 4, 2), 2, saturated(a, b)), api.OK)
		}
	}
	x := added(t, all(4, 8, 0), item{7, last}, item{7, 1}, item{7, last}, item{9, 5}, item{7, 0})
	same(t, "again and again", x, api.OK, wanted(all(4, 8, 0), item{7, last}, item{9, 5}), api.OK)
	if n := cms.Count(x, 7); n != last {
		t.Error(n)
	}
}

// P8.1: counters that are the same, right or not, and counters that are not.
func TestSame(t *testing.T) {
	l := append(append(wrongs()[:400], rights(1, 4)...), rights(2, 8)...)
	for _, x := range l {
		for _, y := range l {
			if want := equal(x, y); cms.Same(x, of(y.Rows, y.Cols, slices.Clone(y.L)...)) != want {
				t.Errorf("%s, %s: not %v", short(x), short(y), want)
			}
		}
	}
	x := mixed(2, 8, 3)
	for _, y := range []api.Cms{of(4, 8, x.L...), of(2, 4, x.L...), of(4, 4, x.L...), of(2, 8, x.L[:15]...), of(2, 8, x.L[1:]...), of(2, 8, append(slices.Clone(x.L), 0)...), of(2, 8), {}} {
		if cms.Same(x, y) || cms.Same(y, x) {
			t.Error(short(y))
		}
	}
	for i := range x.L {
		if y := with(x, i, x.L[i]+1); cms.Same(x, y) || cms.Same(y, x) || !cms.Same(y, with(x, i, x.L[i]+1)) {
			t.Errorf("counter %d", i)
		}
	}
	if !cms.Same(api.Cms{Rows: 3}, api.Cms{Rows: 3, L: []uint64{}}) || !cms.Same(api.Cms{L: []uint64{}}, api.Cms{}) {
		t.Error("nil and empty lists")
	}
}

// P8.2: each counter both together.
func TestMerge(t *testing.T) {
	for _, s := range shapes() {
		l := rights(s[0], s[1])
		for i, x := range l {
			for j := i % 7; j < len(l); j += 7 {
				z, e := cms.Merge(x, l[j])
				same(t, []any{x, l[j]}, z, e, merged(x, l[j]), api.OK)
			}
			z, e := cms.Merge(x, x)
			same(t, x, z, e, merged(x, x), api.OK)
			z, e = cms.Merge(x, l[0])
			same(t, x, z, e, x, api.OK)
			z, e = cms.Merge(l[0], x)
			same(t, x, z, e, x, api.OK)
			z, e = cms.Merge(all(s[0], s[1], last), x)
			same(t, x, z, e, all(s[0], s[1], last), api.OK)
		}
	}
}

// P8.2: two of other rows or columns are not merged, be they ever so right, or of as many counters.
func TestMergeOfOthers(t *testing.T) {
	for _, s := range shapes() {
		for _, r := range shapes() {
			if s == r {
				continue
			}
			for _, n := range []uint64{0, 1, last} {
				z, e := cms.Merge(all(s[0], s[1], n), all(r[0], r[1], n))
				same(t, []any{s, r}, z, e, api.Cms{}, api.ErrCms)
			}
		}
	}
}

// P8.2: half as many columns, row by row.
func TestLower(t *testing.T) {
	x, e := cms.Lower(of(2, 8, 1, 2, 3, 4, 10, 20, 30, last, 5, 0, 7, 0, 0, 6, 0, 8))
	same(t, "two rows", x, e, of(2, 4, 11, 22, 33, last, 5, 6, 7, 8), api.OK)
	for _, s := range shapes() {
		for _, x := range rights(s[0], s[1]) {
			y, e := cms.Lower(x)
			if s[1] == 4 {
				same(t, x, y, e, api.Cms{}, api.ErrCms)
				continue
			}
			same(t, x, y, e, lowered(x), api.OK)
		}
	}
}

// P8.2: the least of the counters that a number tells, wherever it stands.
func TestCount(t *testing.T) {
	x := of(2, 4, 0, last, 0, 0, 7, 0, 0, last-2)
	for _, i := range []item{{5<<32 + 3, 7}, {1<<32 + 2, last - 2}, {1 << 32, 0}, {0, 0}} {
		if n := cms.Count(x, i.h); n != i.n {
			t.Errorf("%x: %d, not %d", i.h, n, i.n)
		}
	}
	for _, s := range shapes() {
		for i, x := range rights(s[0], s[1]) {
			l := numbers()
			for j := i % 8; j < len(l); j += 8 {
				var told []uint64
				for row := range s[0] {
					told = append(told, x.L[row*s[1]+column(s[1], row, l[j])])
				}
				if n, want := cms.Count(x, l[j]), slices.Min(told); n != want {
					t.Errorf("%s, %x: %d, not %d", short(x), l[j], n, want)
				}
			}
		}
		for row := range s[0] {
			h := uint64(3<<32 + 1)
			at := row*s[1] + column(s[1], row, h)
			for _, n := range []uint64{0, 1, 8, last - 1} {
				if m := cms.Count(with(all(s[0], s[1], last), at, n), h); m != n {
					t.Errorf("%v, the least in row %d: %d, not %d", s, row, m, n)
				}
			}
		}
	}
}

// P8.3: in whatever order numbers are added, and saturated, the counters are the same.
func TestOrders(t *testing.T) {
	for _, s := range shapes() {
		for _, often := range [][]uint64{{1}, {0, 1, 5}, {1 << 60, 3, last, 1 << 63}, {1 << 62}} {
			l := items(many(60), often...)
			want := wanted(all(s[0], s[1], 0), l...)
			for turn := range 4 {
				slices.SortFunc(l, func(a, b item) int {
					by := []uint64{1, last, 12345, 987654321}[turn]
					return new(big.Int).SetUint64(a.h * by).Cmp(new(big.Int).SetUint64(b.h * by))
				})
				same(t, []any{s, often, turn}, added(t, all(s[0], s[1], 0), l...), api.OK, want, api.OK)
			}
		}
	}
	once := added(t, all(3, 16, 0), item{5, 12})
	by := added(t, all(3, 16, 0), items(slices.Repeat([]uint64{5}, 12), 1)...)
	same(t, "12 times one, and one 12 times", by, api.OK, once, api.OK)
}

// P8.3: in whatever parts numbers are added, merged they are the same.
func TestParts(t *testing.T) {
	for _, s := range shapes() {
		for _, often := range [][]uint64{{1, 2, 3}, {1 << 62, 1, last - 5}} {
			l := items(append(many(40), numbers()[100:150]...), often...)
			want := wanted(all(s[0], s[1], 0), l...)
			for _, size := range []int{1, 7, 45, 1000} {
				forth, back := all(s[0], s[1], 0), all(s[0], s[1], 0)
				for part := range slices.Chunk(l, size) {
					x := added(t, all(s[0], s[1], 0), part...)
					var e, f api.Errno
					forth, e = cms.Merge(forth, x)
					back, f = cms.Merge(x, back)
					if e != api.OK || f != api.OK {
						t.Fatalf("%v by %d: %d, %d", s, size, e, f)
					}
				}
				same(t, []any{s, size, "forth"}, forth, api.OK, want, api.OK)
				same(t, []any{s, size, "back"}, back, api.OK, want, api.OK)
			}
		}
	}
}

// P8.3: lowered counters are those of the same numbers with fewer columns, whenever they are lowered.
func TestLowered(t *testing.T) {
	for rows := 1; rows <= 4; rows++ {
		for _, l := range [][]item{nil, items(numbers(), 1, 0, 6), items(many(50), 1<<63, 3), items([]uint64{1, 1 << 32}, last), items(many(1), 5)} {
			x, y := added(t, all(rows, 32, 0), l[:len(l)/2]...), added(t, all(rows, 32, 0), l[len(l)/2:]...)
			whole, e := cms.Merge(x, y)
			for cols := 16; cols >= 4; cols /= 2 {
				want := wanted(all(rows, cols, 0), l...)
				var f, g, h, i api.Errno
				whole, f = cms.Lower(whole)
				x, g = cms.Lower(x)
				y, h = cms.Lower(y)
				z, i := cms.Merge(y, x)
				same(t, []any{rows, cols, "merged, and lowered"}, whole, max(e, f), want, api.OK)
				same(t, []any{rows, cols, "lowered, and merged"}, z, max(g, h, i), want, api.OK)
				same(t, []any{rows, cols, "never lowered"}, added(t, all(rows, cols, 0), l...), api.OK, want, api.OK)
			}
		}
	}
}

// P8.3: a count is never below how often the number came, unless that is past all numbers.
func TestNeverBelow(t *testing.T) {
	for _, s := range shapes() {
		for _, l := range [][]item{items(numbers(), 1, 2, 3), items(slices.Repeat(many(20), 5), 1, 0, 1<<40), items(slices.Repeat(many(3), 7), 1<<61, 1), items(many(1), 9)} {
			often := map[uint64][]uint64{}
			for _, i := range l {
				often[i.h] = append(often[i.h], i.n)
			}
			for x := added(t, all(s[0], s[1], 0), l...); ; {
				for h, n := range often {
					if cms.Count(x, h) < saturated(n...) {
						t.Errorf("%v, %x: %d, below %v", s, h, cms.Count(x, h), n)
					}
				}
				y, e := cms.Lower(x)
				if e != api.OK {
					break
				}
				x = y
			}
			if len(often) == 1 && cms.Count(added(t, all(s[0], s[1], 0), l...), l[0].h) != 9 {
				t.Errorf("%v: a number that came alone", s)
			}
		}
	}
}

// Rules R3 and R4: lists that are handed in stay as they are, with their spare room, and no answer shares any with them, nor with another answer.
func TestOnesOwn(t *testing.T) {
	room := many(200)
	ahead := slices.Clone(room)
	x, y := of(2, 8, room[30:46]...), of(2, 8, room[40:56]...)
	for i, call := range []func() (api.Cms, api.Errno){
		func() (api.Cms, api.Errno) { return cms.New(2, 8) },
		func() (api.Cms, api.Errno) { return cms.Add(x, 5<<32+3, 7) },
		func() (api.Cms, api.Errno) { return cms.Add(x, 5<<32+3, 0) },
		func() (api.Cms, api.Errno) { return cms.Add(x, 5<<32+3, last) },
		func() (api.Cms, api.Errno) { return cms.Merge(x, y) },
		func() (api.Cms, api.Errno) { return cms.Merge(y, x) },
		func() (api.Cms, api.Errno) { return cms.Merge(x, x) },
		func() (api.Cms, api.Errno) { return cms.Merge(x, all(2, 8, 0)) },
		func() (api.Cms, api.Errno) { return cms.Lower(x) },
		func() (api.Cms, api.Errno) { return cms.Add(of(2, 8, room[:15]...), 1, 1) },
		func() (api.Cms, api.Errno) { return cms.Merge(x, of(2, 8, room[:17]...)) },
	} {
		first, e := call()
		kept := slices.Clone(first.L)
		second, f := call()
		if e != f || !equal(first, second) {
			t.Errorf("%d: %v, %d, then %v, %d", i, first, e, second, f)
		}
		clear(second.L[:cap(second.L)])
		if !slices.Equal(first.L, kept) || !slices.Equal(room, ahead) {
			t.Errorf("%d: %v, %v", i, first, room)
		}
	}
	cms.Right(x)
	cms.Col(x, 1, 3)
	cms.Count(x, 3)
	cms.Same(x, y)
	if !slices.Equal(room, ahead) {
		t.Error("handed in:", room)
	}
}
