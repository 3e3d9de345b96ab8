package hist_test

import (
	"fmt"
	"math"
	"math/big"
	"slices"
	"strconv"
	"strings"
	"testing"

	"aviary/api"
	"aviary/hist"
)

const last = 1<<64 - 1

// item is a value, and how often it is added.
type item struct {
	v, n uint64
}

// of is a histogram of these buckets, as they are, be they right or not.
func of(fine int, l ...api.Bin) api.Hist {
	return api.Hist{Fine: fine, L: l}
}

// strange are Fines that there are not.
func strange() []int {
	return []int{math.MinInt, math.MinInt + 2, -1 << 32, -64, -4, -3, -2, -1, 4, 5, 6, 7, 8, 16, 32, 63, 64, 65, 128, 1 << 32, 1<<32 + 2, math.MaxInt}
}

// many has numbers of all sorts and sizes, the same ones in each run.
func many(n int) []uint64 {
	l := make([]uint64, n)
	x := uint64(1)
	for i := range l {
		x += 0x9e3779b97f4a7c15
		y := (x ^ x>>30) * 0xbf58476d1ce4e5b9
		y = (y ^ y>>27) * 0x94d049bb133111eb
		l[i] = (y ^ y>>31) >> (y % 64)
	}
	return l
}

// values has those at the edges of buckets, all small ones, and some more.
func values() []uint64 {
	l := []uint64{0, last, last - 1}
	for v := range uint64(300) {
		l = append(l, v)
	}
	for i := range 61 {
		for v := uint64(8); v < 16; v++ {
			l = append(l, v<<i, v<<i-1, v<<i+1)
		}
	}
	return append(l, many(500)...)
}

// bucket is a value's one, told from its digits as they are written.
func bucket(fine int, v uint64) int {
	if v == 0 {
		return 0
	}
	s := fmt.Sprintf("%b", v)
	tail, err := strconv.ParseInt("0"+(s[1:] + "000")[:fine], 2, 0)
	if err != nil {
		panic(err)
	}
	return 1 + []int{1, 2, 4, 8}[fine]*(len(s)-1) + int(tail)
}

// bounds are all buckets that have values, with the least and the greatest one of each, told from values as they are written.
func bounds(fine int) map[int][2]uint64 {
	all := map[int][2]uint64{0: {0, 0}}
	for size := 1; size <= 64; size++ {
		told := min(fine, size-1)
		for i := range 1 << told {
			s := "1"
			if told > 0 {
				s += fmt.Sprintf("%0*b", told, i)
			}
			var ends [2]uint64
			for j, fill := range []string{"0", "1"} {
				n, err := strconv.ParseUint(s+strings.Repeat(fill, size-len(s)), 2, 64)
				if err != nil {
					panic(err)
				}
				ends[j] = n
			}
			all[bucket(fine, ends[0])] = ends
		}
	}
	return all
}

// places are all buckets that have values, rising.
func places(fine int) []int {
	var l []int
	for at := range bounds(fine) {
		l = append(l, at)
	}
	slices.Sort(l)
	return l
}

// saturated is all these numbers together, but at most 2^64-1.
func saturated(l ...uint64) uint64 {
	sum := new(big.Int)
	for _, n := range l {
		sum.Add(sum, new(big.Int).SetUint64(n))
	}
	if !sum.IsUint64() {
		return last
	}
	return sum.Uint64()
}

// gathered is a histogram of all numbers that buckets were told, saturated when all are there.
func gathered(fine int, told map[int][]uint64) api.Hist {
	x := api.Hist{Fine: fine}
	for at, l := range told {
		if n := saturated(l...); n > 0 {
			x.L = append(x.L, api.Bin{At: at, N: n})
		}
	}
	slices.SortFunc(x.L, func(a, b api.Bin) int { return a.At - b.At })
	return x
}

// wanted is the histogram of x's values and of all items.
func wanted(x api.Hist, items ...item) api.Hist {
	told := map[int][]uint64{}
	for _, b := range x.L {
		told[b.At] = append(told[b.At], b.N)
	}
	for _, i := range items {
		at := bucket(x.Fine, i.v)
		told[at] = append(told[at], i.n)
	}
	return gathered(x.Fine, told)
}

// merged is the histogram of both's values.
func merged(x, y api.Hist) api.Hist {
	told := map[int][]uint64{}
	for _, b := range slices.Concat(x.L, y.L) {
		told[b.At] = append(told[b.At], b.N)
	}
	return gathered(x.Fine, told)
}

// lowered is the histogram of x's values, each bucket's told by its least one.
func lowered(x api.Hist, ends map[int][2]uint64) api.Hist {
	told := map[int][]uint64{}
	for _, b := range x.L {
		at := bucket(x.Fine-1, ends[b.At][0])
		told[at] = append(told[at], b.N)
	}
	return gathered(x.Fine-1, told)
}

// upTo is how many of x's values are in buckets up to one.
func upTo(x api.Hist, at int) uint64 {
	var l []uint64
	for _, b := range x.L {
		if b.At <= at {
			l = append(l, b.N)
		}
	}
	return saturated(l...)
}

// mixed is a histogram that has some of all buckets, with numbers of all sorts; the same one in each run.
func mixed(fine int, sort int) api.Hist {
	all := places(fine)
	l := many(sort + 2*len(all))[sort:]
	x := api.Hist{Fine: fine}
	for i, at := range all {
		n := l[2*i] + 1
		switch l[2*i+1] % 7 {
		case 0:
			n = last - n>>60
		case 1:
			n = n>>60 + 1
		case 2, 3, 4:
			continue
		}
		if n > 0 {
			x.L = append(x.L, api.Bin{At: at, N: n})
		}
	}
	return x
}

// each is a histogram that has all buckets, each with n values.
func each(fine int, n uint64) api.Hist {
	x := api.Hist{Fine: fine}
	for _, at := range places(fine) {
		x.L = append(x.L, api.Bin{At: at, N: n})
	}
	return x
}

// rights are histograms of a Fine.
func rights(fine int) []api.Hist {
	all := places(fine)
	l := []api.Hist{of(fine), of(fine, []api.Bin{}...), each(fine, 1), each(fine, 1<<58), each(fine, last)}
	for i, at := range all {
		l = append(l, of(fine, api.Bin{At: at, N: last - uint64(i)}))
		if i > 0 {
			l = append(l, of(fine, api.Bin{At: all[i-1], N: 1}, api.Bin{At: at, N: 1 << 63}), of(fine, api.Bin{At: 0, N: 2}, api.Bin{At: at, N: last - 2}))
		}
	}
	for i := range 25 {
		l = append(l, mixed(fine, i))
	}
	return l
}

// wrongs are none: of no Fine, of buckets that there are not, or that no value is in, or that do not rise, or that have no values.
func wrongs() []api.Hist {
	var l []api.Hist
	for _, fine := range strange() {
		l = append(l, of(fine), of(fine, api.Bin{At: 0, N: 1}), of(fine, api.Bin{At: 1, N: 1}), of(fine, api.Bin{At: 0, N: 1}, api.Bin{At: 17, N: 5}))
	}
	for fine := range 4 {
		ends := bounds(fine)
		for _, at := range []int{math.MinInt, math.MinInt + 1, -1 << 32, -513, -512, -8, -2, -1, 1 << 32, 1<<32 + 1, 1 << 60, 1<<61 + 1, 1<<62 + 1, math.MaxInt - 1, math.MaxInt} {
			l = append(l, of(fine, api.Bin{At: at, N: 1}), of(fine, api.Bin{At: 0, N: 1}, api.Bin{At: at, N: 1}), of(fine, api.Bin{At: at, N: 1}, api.Bin{At: 1, N: 1}))
		}
		for at := range 600 {
			if _, ok := ends[at]; !ok {
				l = append(l, of(fine, api.Bin{At: at, N: 1}), of(fine, api.Bin{At: 0, N: 9}, api.Bin{At: at, N: last}))
				continue
			}
			l = append(l, of(fine, api.Bin{At: at}), of(fine, api.Bin{At: at, N: 1}, api.Bin{At: at, N: 1}))
			if at > 0 {
				l = append(l, of(fine, api.Bin{At: at, N: 1}, api.Bin{At: 0, N: 1}), of(fine, api.Bin{At: 0}, api.Bin{At: at, N: 1}))
			}
		}
		l = append(l, spoilt(fine)...)
	}
	return l
}

// spoilt are long histograms, with something wrong at one place, be it the last one.
func spoilt(fine int) []api.Hist {
	var l []api.Hist
	x := each(fine, 3)
	for i := range x.L {
		empty, twice := of(fine, slices.Clone(x.L)...), of(fine, slices.Insert(slices.Clone(x.L), i, x.L[i])...)
		empty.L[i].N = 0
		l = append(l, empty, twice)
		if i > 0 {
			turned := of(fine, slices.Clone(x.L)...)
			turned.L[i-1], turned.L[i] = turned.L[i], turned.L[i-1]
			l = append(l, turned)
		}
	}
	many := of(fine, slices.Repeat(x.L, 100)...)
	more := of(fine, append(slices.Clone(x.L), api.Bin{At: 64<<fine + 1, N: 1})...)
	return append(l, many, more)
}

// equal tells whether two are the same, field by field.
func equal(x, y api.Hist) bool {
	return x.Fine == y.Fine && slices.Equal(x.L, y.L)
}

// items are these values, added so often, by turns.
func items(v []uint64, often ...uint64) []item {
	l := make([]item, len(v))
	for i := range l {
		l[i] = item{v[i], often[i%len(often)]}
	}
	return l
}

// added is x with items, added one by one.
func added(t *testing.T, x api.Hist, items ...item) api.Hist {
	t.Helper()
	for _, i := range items {
		y, e := hist.Add(x, i.v, i.n)
		if e != api.OK {
			t.Fatalf("%s, %d, %d: %d", short(x), i.v, i.n, e)
		}
		x = y
	}
	return x
}

// short is what v looks like, up to a length that can be read.
func short(v any) string {
	s := fmt.Sprint(v)
	return s[:min(len(s), 300)]
}

// same tells what is wrong, if a histogram and an error are others than those that are wanted.
func same(t *testing.T, what any, x api.Hist, e api.Errno, want api.Hist, f api.Errno) {
	t.Helper()
	if !equal(x, want) || e != f {
		t.Errorf("%s: %s, %d, not %s, %d", short(what), short(x), e, short(want), f)
	}
	if e == api.OK && !hist.Right(x) {
		t.Errorf("%s: %s is not right", short(what), short(x))
	}
}

// P9.1: the chapter's examples, edges written out by hand, and values of all sorts.
func TestBucket(t *testing.T) {
	for _, x := range []struct {
		fine int
		v    uint64
		at   int
	}{
		{2, 13, 15}, {2, 2, 5}, {0, 0, 0}, {3, 0, 0}, {0, 1, 1}, {1, 1, 1}, {3, 1, 1}, {0, 2, 2}, {0, 3, 2}, {0, 4, 3}, {1, 2, 3}, {1, 3, 4}, {1, 4, 5}, {1, 5, 5}, {1, 6, 6}, {1, 7, 6},
		{2, 3, 7}, {2, 4, 9}, {2, 5, 10}, {2, 7, 12}, {2, 8, 13}, {2, 9, 13}, {2, 10, 14}, {2, 11, 14}, {2, 12, 15}, {2, 14, 16}, {2, 15, 16}, {2, 16, 17},
		{3, 2, 9}, {3, 3, 13}, {3, 4, 17}, {3, 7, 23}, {3, 15, 32}, {3, 16, 33}, {3, 17, 33}, {3, 18, 34},
		{0, last, 64}, {1, last, 128}, {2, last, 256}, {3, last, 512}, {0, 1 << 63, 64}, {1, 1 << 63, 127}, {2, 1 << 63, 253}, {3, 1 << 63, 505}, {3, 1<<63 - 1, 504},
	} {
		if at := hist.Bucket(x.fine, x.v); at != x.at {
			t.Errorf("%d, %d: %d, not %d", x.fine, x.v, at, x.at)
		}
	}
	for fine := range 4 {
		for _, v := range values() {
			if at, want := hist.Bucket(fine, v), bucket(fine, v); at != want {
				t.Errorf("%d, %d: %d, not %d", fine, v, at, want)
			}
		}
	}
	for _, fine := range strange() {
		for _, v := range values() {
			if at := hist.Bucket(fine, v); at != 0 {
				t.Errorf("%d, %d: %d", fine, v, at)
			}
		}
	}
}

// P9.1: both bounds of each bucket; none of one that has no values, or that there is not.
func TestBounds(t *testing.T) {
	for _, x := range []struct {
		fine, at int
		a, b     uint64
		ok       bool
	}{
		{2, 15, 12, 13, true}, {2, 5, 2, 2, true}, {2, 6, 0, 0, false}, {2, 7, 3, 3, true}, {2, 8, 0, 0, false}, {0, 1, 1, 1, true}, {0, 2, 2, 3, true}, {1, 2, 0, 0, false}, {1, 3, 2, 2, true}, {1, 4, 3, 3, true},
		{0, 0, 0, 0, true}, {3, 0, 0, 0, true}, {3, 1, 1, 1, true}, {3, 2, 0, 0, false}, {3, 8, 0, 0, false}, {3, 9, 2, 2, true}, {3, 13, 3, 3, true}, {3, 19, 5, 5, true}, {3, 18, 0, 0, false}, {3, 33, 16, 17, true},
		{0, 64, 1 << 63, last, true}, {0, 65, 0, 0, false}, {3, 512, 15 << 60, last, true}, {3, 513, 0, 0, false}, {2, 256, 7 << 61, last, true}, {2, 257, 0, 0, false}, {1, 128, 3 << 62, last, true},
	} {
		if a, b, ok := hist.Bounds(x.fine, x.at); a != x.a || b != x.b || ok != x.ok {
			t.Errorf("%d, %d: %d, %d, %v", x.fine, x.at, a, b, ok)
		}
	}
	far := []int{math.MinInt, math.MinInt + 1, -1 << 62, -1 << 32, -1<<32 + 1, 1 << 32, 1<<32 + 1, 1<<32 + 5, 1 << 60, 1<<60 + 1, 1<<61 + 1, 1<<62 + 1, math.MaxInt - 1, math.MaxInt}
	for at := -600; at < 1200; at++ {
		far = append(far, at)
	}
	for fine := range 4 {
		all := bounds(fine)
		for _, at := range far {
			want, is := all[at]
			if a, b, ok := hist.Bounds(fine, at); a != want[0] || b != want[1] || ok != is {
				t.Errorf("%d, %d: %d, %d, %v, not %d, %v", fine, at, a, b, ok, want, is)
			}
		}
	}
	for _, fine := range strange() {
		for _, at := range far {
			if a, b, ok := hist.Bounds(fine, at); a != 0 || b != 0 || ok {
				t.Errorf("%d, %d: %d, %d, %v", fine, at, a, b, ok)
			}
		}
	}
}

// P9.1: what is a histogram: each Fine's, with none, one, some, or all of its buckets.
func TestRight(t *testing.T) {
	for fine := range 4 {
		for _, x := range rights(fine) {
			if !hist.Right(x) {
				t.Error(short(x))
			}
		}
		all := bounds(fine)
		for at := -3; at < 600; at++ {
			if _, want := all[at]; hist.Right(of(fine, api.Bin{At: at, N: 1})) != want {
				t.Errorf("%d, %d: not %v", fine, at, want)
			}
		}
	}
	if !hist.Right(api.Hist{}) {
		t.Error("one of no values")
	}
}

// P9.1, P9.2: what is none is refused, by whatever it is handed to, and tells nothing.
func TestNotRight(t *testing.T) {
	for _, x := range wrongs() {
		if hist.Right(x) {
			t.Error(short(x))
		}
		for _, n := range []uint64{0, 1, 5, last} {
			y, e := hist.Add(x, 3, n)
			same(t, x, y, e, api.Hist{}, api.ErrHist)
			if a, b, ok := hist.Select(x, n); a != 0 || b != 0 || ok {
				t.Errorf("%s, %d: %d, %d, %v", short(x), n, a, b, ok)
			}
			if r := hist.Rank(x, n); r != 0 {
				t.Errorf("%s, %d: %d", short(x), n, r)
			}
		}
		if n := hist.Total(x); n != 0 {
			t.Errorf("%s: %d", short(x), n)
		}
		y, e := hist.Lower(x)
		same(t, x, y, e, api.Hist{}, api.ErrHist)
		for _, y := range []api.Hist{of(x.Fine), of(x.Fine, api.Bin{At: 1, N: 2}), {}, x} {
			z, e := hist.Merge(x, y)
			same(t, []any{x, y}, z, e, api.Hist{}, api.ErrHist)
			z, e = hist.Merge(y, x)
			same(t, []any{y, x}, z, e, api.Hist{}, api.ErrHist)
		}
	}
}

// P9.1: values more, in their bucket alone, be it there or not; none more of none.
func TestAdd(t *testing.T) {
	x, e := hist.Add(of(2), 13, 4)
	same(t, "one", x, e, of(2, api.Bin{At: 15, N: 4}), api.OK)
	x, e = hist.Add(x, 2, 1)
	same(t, "ahead of it", x, e, of(2, api.Bin{At: 5, N: 1}, api.Bin{At: 15, N: 4}), api.OK)
	x, e = hist.Add(x, 12, 2)
	same(t, "into it", x, e, of(2, api.Bin{At: 5, N: 1}, api.Bin{At: 15, N: 6}), api.OK)
	x, e = hist.Add(x, 7, 0)
	same(t, "none", x, e, of(2, api.Bin{At: 5, N: 1}, api.Bin{At: 15, N: 6}), api.OK)
	x, e = hist.Add(of(0), 0, 0)
	same(t, "none at all", x, e, of(0), api.OK)
	l := values()
	for fine := range 4 {
		for i, x := range rights(fine) {
			for j := i % 397; j < len(l); j += 397 {
				for _, n := range []uint64{0, 1, 2, 1 << 32, 1<<63 - 1, 1 << 63, last - 1, last} {
					y, e := hist.Add(x, l[j], n)
					same(t, []any{x, l[j], n}, y, e, wanted(x, item{l[j], n}), api.OK)
				}
			}
		}
		for _, v := range l {
			x, e := hist.Add(of(fine), v, 1)
			same(t, []any{fine, v}, x, e, of(fine, api.Bin{At: bucket(fine, v), N: 1}), api.OK)
		}
	}
}

// P9.1, P9.2: a bucket that has all that it can have stays so, and takes nothing from others.
func TestSaturated(t *testing.T) {
	edges := []uint64{1, 2, 1<<63 - 1, 1 << 63, 1<<63 + 1, last - 2, last - 1, last}
	for _, a := range edges {
		for _, b := range edges {
			x := of(2, api.Bin{At: 1, N: 3}, api.Bin{At: 15, N: a}, api.Bin{At: 17, N: 4})
			want := of(2, api.Bin{At: 1, N: 3}, api.Bin{At: 15, N: saturated(a, b)}, api.Bin{At: 17, N: 4})
			y, e := hist.Add(x, 13, b)
			same(t, []uint64{a, b}, y, e, want, api.OK)
			y, e = hist.Merge(x, of(2, api.Bin{At: 15, N: b}))
			same(t, []uint64{a, b}, y, e, want, api.OK)
			y, e = hist.Lower(of(2, api.Bin{At: 1, N: 3}, api.Bin{At: 15, N: a}, api.Bin{At: 16, N: b}, api.Bin{At: 17, N: 4}))
			same(t, []uint64{a, b}, y, e, of(1, api.Bin{At: 1, N: 3}, api.Bin{At: 8, N: saturated(a, b)}, api.Bin{At: 9, N: 4}), api.OK)
			z := of(0, api.Bin{At: 3, N: a}, api.Bin{At: 4, N: b}, api.Bin{At: 5, N: last})
			if hist.Rank(z, 15) != saturated(a, b) || hist.Rank(z, 16) != last || hist.Total(z) != last {
				t.Errorf("%s: %d, %d, %d", short(z), hist.Rank(z, 15), hist.Rank(z, 16), hist.Total(z))
			}
		}
	}
	x := added(t, of(3), item{7, last}, item{7, 1}, item{7, last}, item{9, 5}, item{7, 0})
	same(t, "again and again", x, api.OK, of(3, api.Bin{At: 23, N: last}, api.Bin{At: 26, N: 5}), api.OK)
}

// P9.1: histograms that are the same, right or not, and histograms that are not.
func TestSame(t *testing.T) {
	var l []api.Hist
	for i, x := range slices.Concat(rights(0), rights(2), wrongs()) {
		if i%31 == 0 && len(x.L) < 600 {
			l = append(l, x)
		}
	}
	for _, x := range l {
		for _, y := range l {
			if want := equal(x, y); hist.Same(x, of(y.Fine, slices.Clone(y.L)...)) != want {
				t.Errorf("%s, %s: not %v", short(x), short(y), want)
			}
		}
	}
	x := mixed(2, 3)
	n := len(x.L)
	for _, y := range []api.Hist{of(3, x.L...), of(1, x.L...), of(-2, x.L...), of(2, x.L[:n-1]...), of(2, x.L[1:]...), of(2, append(slices.Clone(x.L), api.Bin{})...), of(2), {}} {
		if hist.Same(x, y) || hist.Same(y, x) {
			t.Error(short(y))
		}
	}
	for i := range x.L {
		y, z := of(2, slices.Clone(x.L)...), of(2, slices.Clone(x.L)...)
		y.L[i].N++
		z.L[i].At++
		if hist.Same(x, y) || hist.Same(y, x) || hist.Same(x, z) || hist.Same(z, x) || hist.Same(y, z) {
			t.Errorf("bucket %d", i)
		}
	}
	if !hist.Same(api.Hist{Fine: 3}, api.Hist{Fine: 3, L: []api.Bin{}}) || !hist.Same(api.Hist{L: []api.Bin{}}, api.Hist{}) {
		t.Error("nil and empty lists")
	}
}

// P9.2: all values of two.
func TestMerge(t *testing.T) {
	x := of(2, api.Bin{At: 0, N: 1}, api.Bin{At: 15, N: 2}, api.Bin{At: 17, N: 3})
	z, e := hist.Merge(x, of(2, api.Bin{At: 5, N: 10}, api.Bin{At: 15, N: 20}, api.Bin{At: 256, N: 30}))
	same(t, "two", z, e, of(2, api.Bin{At: 0, N: 1}, api.Bin{At: 5, N: 10}, api.Bin{At: 15, N: 22}, api.Bin{At: 17, N: 3}, api.Bin{At: 256, N: 30}), api.OK)
	for fine := range 4 {
		l := rights(fine)
		step := 5 + 10*fine*fine
		for i, x := range l {
			for j := i % step; j < len(l); j += step {
				z, e := hist.Merge(x, l[j])
				same(t, []any{x, l[j]}, z, e, merged(x, l[j]), api.OK)
			}
			z, e := hist.Merge(x, x)
			same(t, x, z, e, merged(x, x), api.OK)
			z, e = hist.Merge(x, l[0])
			same(t, x, z, e, x, api.OK)
			z, e = hist.Merge(l[0], x)
			same(t, x, z, e, x, api.OK)
		}
	}
}

// P9.2: two of other Fines are not merged, be they ever so right, or of the same buckets, or of none.
func TestMergeOfOthers(t *testing.T) {
	for one := range 4 {
		for other := range 4 {
			if one == other {
				continue
			}
			for _, l := range [][]api.Bin{nil, {{At: 0, N: 1}}, {{At: 1, N: 2}, {At: 17, N: last}}} {
				z, e := hist.Merge(of(one, l...), of(other, l...))
				same(t, []any{one, other}, z, e, api.Hist{}, api.ErrHist)
			}
		}
	}
}

// P9.2: the same values, that one digit less tells apart, down to Fine 0, and no further.
func TestLower(t *testing.T) {
	x, e := hist.Lower(of(1, api.Bin{At: 0, N: 1}, api.Bin{At: 1, N: 2}, api.Bin{At: 3, N: 3}, api.Bin{At: 4, N: 4}, api.Bin{At: 5, N: 5}, api.Bin{At: 128, N: 6}))
	same(t, "of Fine 1", x, e, of(0, api.Bin{At: 0, N: 1}, api.Bin{At: 1, N: 2}, api.Bin{At: 2, N: 7}, api.Bin{At: 3, N: 5}, api.Bin{At: 64, N: 6}), api.OK)
	for fine := range 4 {
		ends := bounds(fine)
		for _, x := range rights(fine) {
			y, e := hist.Lower(x)
			if fine == 0 {
				same(t, x, y, e, api.Hist{}, api.ErrHist)
				continue
			}
			same(t, x, y, e, lowered(x, ends), api.OK)
		}
	}
}

// P9.2: how many values are up to a bucket, and in all; those of v's own bucket are told with it, be they greater than v.
func TestRank(t *testing.T) {
	x := of(2, api.Bin{At: 0, N: 1}, api.Bin{At: 5, N: 2}, api.Bin{At: 15, N: 4}, api.Bin{At: 27, N: 8})
	for _, c := range [][2]uint64{{0, 1}, {1, 1}, {2, 3}, {3, 3}, {11, 3}, {12, 7}, {13, 7}, {14, 7}, {95, 7}, {96, 15}, {111, 15}, {112, 15}, {last, 15}} {
		if n := hist.Rank(x, c[0]); n != c[1] {
			t.Errorf("%d: %d, not %d", c[0], n, c[1])
		}
	}
	l := values()
	for fine := range 4 {
		for i, x := range rights(fine) {
			for j := i % 23; j < len(l); j += 23 {
				if n, want := hist.Rank(x, l[j]), upTo(x, bucket(fine, l[j])); n != want {
					t.Errorf("%s, %d: %d, not %d", short(x), l[j], n, want)
				}
			}
			if n, want := hist.Total(x), upTo(x, math.MaxInt); n != want || hist.Rank(x, last) != want {
				t.Errorf("%s: %d, not %d", short(x), n, want)
			}
		}
	}
	if hist.Total(api.Hist{}) != 0 || hist.Rank(api.Hist{}, last) != 0 {
		t.Error("no values")
	}
}

// P9.2: the first bucket, up to which there are more values than place says, but none behind the last one, nor past all numbers.
func TestSelect(t *testing.T) {
	x := of(2, api.Bin{At: 0, N: 1}, api.Bin{At: 5, N: 2}, api.Bin{At: 15, N: 4})
	for place, want := range [][2]uint64{{0, 0}, {2, 2}, {2, 2}, {12, 13}, {12, 13}, {12, 13}, {12, 13}} {
		if a, b, ok := hist.Select(x, uint64(place)); [2]uint64{a, b} != want || !ok {
			t.Errorf("%d: %d, %d, %v, not %d", place, a, b, ok, want)
		}
	}
	for _, place := range []uint64{7, 8, 1 << 63, last} {
		if a, b, ok := hist.Select(x, place); a != 0 || b != 0 || ok {
			t.Errorf("%d: %d, %d, %v", place, a, b, ok)
		}
	}
	for fine := range 4 {
		ends := bounds(fine)
		for _, x := range rights(fine) {
			for _, place := range asked(x) {
				var want [2]uint64
				i := slices.IndexFunc(x.L, func(b api.Bin) bool { return upTo(x, b.At) > place })
				if i >= 0 {
					want = ends[x.L[i].At]
				}
				if a, b, ok := hist.Select(x, place); [2]uint64{a, b} != want || ok != (i >= 0) {
					t.Errorf("%s, %d: %d, %d, %v, not %d", short(x), place, a, b, ok, want)
				}
			}
		}
	}
}

// asked are places at the edges of x's buckets, and at both ends.
func asked(x api.Hist) []uint64 {
	l := []uint64{0, 1, 1 << 63, last - 1, last}
	for i := 0; i < len(x.L); i += 1 + len(x.L)/10 {
		n := upTo(x, x.L[i].At)
		l = append(l, n-1, n, n+1)
	}
	return l
}

// P9.3: a value is within its bucket's bounds, and both of these are in the bucket.
func TestWithin(t *testing.T) {
	for fine := range 4 {
		for _, v := range values() {
			at := hist.Bucket(fine, v)
			a, b, ok := hist.Bounds(fine, at)
			if !ok || v < a || v > b || hist.Bucket(fine, a) != at || hist.Bucket(fine, b) != at {
				t.Errorf("%d, %d: %d, %d, %d, %v", fine, v, at, a, b, ok)
			}
		}
	}
}

// P9.3: greater values are in no lesser buckets; buckets that have values have all of them, one behind the other.
func TestRising(t *testing.T) {
	for fine := range 4 {
		l := values()
		slices.Sort(l)
		for i := range l[1:] {
			if hist.Bucket(fine, l[i]) > hist.Bucket(fine, l[i+1]) {
				t.Errorf("%d: %d, %d", fine, l[i], l[i+1])
			}
		}
		next := uint64(0)
		for at := range 64<<fine + 1 {
			a, b, ok := hist.Bounds(fine, at)
			if !ok {
				continue
			}
			if a != next || b < a {
				t.Errorf("%d, %d: %d to %d, not from %d on", fine, at, a, b, next)
			}
			next = b + 1
		}
		if next != 0 {
			t.Errorf("%d: %d is in none", fine, next)
		}
	}
}

// P9.3: in whatever order values come, and saturated, the histogram is the same.
func TestOrders(t *testing.T) {
	for fine := range 4 {
		for _, often := range [][]uint64{{1}, {0, 1, 5}, {1 << 60, 3, last, 1 << 63}, {1 << 62}} {
			l := items(append(many(60), 0, 0, 1, 2, 3, last), often...)
			want := wanted(of(fine), l...)
			for _, by := range []uint64{1, last, 12345, 987654321} {
				slices.SortFunc(l, func(a, b item) int {
					return new(big.Int).SetUint64(a.v * by).Cmp(new(big.Int).SetUint64(b.v * by))
				})
				same(t, []any{fine, often, by}, added(t, of(fine), l...), api.OK, want, api.OK)
			}
		}
	}
	by := added(t, of(3), items(slices.Repeat([]uint64{5}, 12), 1)...)
	same(t, "12 times one, and one 12 times", by, api.OK, added(t, of(3), item{5, 12}), api.OK)
}

// P9.3: in whatever parts values come, merged they are the same.
func TestParts(t *testing.T) {
	for fine := range 4 {
		for _, often := range [][]uint64{{1, 2, 3}, {1 << 62, 1, last - 5}} {
			l := items(append(many(60), values()[:60]...), often...)
			want := wanted(of(fine), l...)
			for _, size := range []int{1, 7, 45, 1000} {
				forth, back := of(fine), of(fine)
				for part := range slices.Chunk(l, size) {
					x := added(t, of(fine), part...)
					var e, f api.Errno
					forth, e = hist.Merge(forth, x)
					back, f = hist.Merge(x, back)
					if e != api.OK || f != api.OK {
						t.Fatalf("%d by %d: %d, %d", fine, size, e, f)
					}
				}
				same(t, []any{fine, size, "forth"}, forth, api.OK, want, api.OK)
				same(t, []any{fine, size, "back"}, back, api.OK, want, api.OK)
			}
		}
	}
}

// P9.3: a lowered histogram is that of the same values, whenever it is lowered.
func TestLowered(t *testing.T) {
	for _, l := range [][]item{nil, items(values(), 1, 0, 6), items(many(50), 1<<63, 3), items([]uint64{0, 1, 2, 3}, last), items([]uint64{7}, 5)} {
		x, y := added(t, of(3), l[:len(l)/2]...), added(t, of(3), l[len(l)/2:]...)
		whole, e := hist.Merge(x, y)
		for fine := 2; fine >= 0; fine-- {
			want := wanted(of(fine), l...)
			var f, g, h api.Errno
			whole, f = hist.Lower(whole)
			x, g = hist.Lower(x)
			y, h = hist.Lower(y)
			z, i := hist.Merge(y, x)
			same(t, []any{fine, "merged, and lowered"}, whole, max(e, f), want, api.OK)
			same(t, []any{fine, "lowered, and merged"}, z, max(g, h, i), want, api.OK)
			same(t, []any{fine, "never lowered"}, added(t, of(fine), l...), api.OK, want, api.OK)
		}
	}
}

// Rules R3 and R4: lists that are handed in stay as they are, with their spare room, and no answer shares any with them, nor with another answer.
func TestOnesOwn(t *testing.T) {
	room := each(3, 7).L
	ahead := slices.Clone(room)
	x, y := of(3, room[30:46]...), of(3, room[40:56]...)
	for i, call := range []func() (api.Hist, api.Errno){
		func() (api.Hist, api.Errno) { return hist.Add(x, 7, 7) },
		func() (api.Hist, api.Errno) { return hist.Add(x, 7, 0) },
		func() (api.Hist, api.Errno) { return hist.Add(x, last, 3) },
		func() (api.Hist, api.Errno) { return hist.Add(x, 0, last) },
		func() (api.Hist, api.Errno) { return hist.Add(of(3, room[:0]...), 5, 1) },
		func() (api.Hist, api.Errno) { return hist.Merge(x, y) },
		func() (api.Hist, api.Errno) { return hist.Merge(y, x) },
		func() (api.Hist, api.Errno) { return hist.Merge(x, x) },
		func() (api.Hist, api.Errno) { return hist.Merge(x, of(3)) },
		func() (api.Hist, api.Errno) { return hist.Merge(of(3), x) },
		func() (api.Hist, api.Errno) { return hist.Lower(x) },
		func() (api.Hist, api.Errno) { return hist.Lower(of(3, room[:1]...)) },
		func() (api.Hist, api.Errno) { return hist.Add(of(2, room[:15]...), 1, 1) },
		func() (api.Hist, api.Errno) { return hist.Merge(x, of(2, room[:17]...)) },
	} {
		first, e := call()
		kept := slices.Clone(first.L)
		second, f := call()
		if e != f || !equal(first, second) {
			t.Errorf("%d: %v, %d, then %v, %d", i, first, e, second, f)
		}
		clear(second.L[:cap(second.L)])
		if !slices.Equal(first.L, kept) || !slices.Equal(room, ahead) {
			t.Errorf("%d: %v, %v", i, first, room)
		}
	}
	hist.Right(x)
	hist.Total(x)
	hist.Rank(x, 3)
	hist.Select(x, 3)
	hist.Same(x, y)
	if !slices.Equal(room, ahead) {
		t.Error("handed in:", room)
	}
}
