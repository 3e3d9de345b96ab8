package exact_test

import (
	"fmt"
	"maps"
	"slices"
	"testing"

	"aviary/api"
	"aviary/exact"
)

const last = 1<<64 - 1

// of is a sketch of these numbers, as they are, be it right or not.
func of(l ...uint64) api.Exact {
	return api.Exact{L: l}
}

// up has n numbers, each one more than the one ahead.
func up(from uint64, n int) []uint64 {
	l := make([]uint64, n)
	for i := range l {
		l[i] = from + uint64(i)
	}
	return l
}

// many has numbers of all sorts, the same ones in each run.
func many(n int) []uint64 {
	l := make([]uint64, n)
	x := uint64(1)
	for i := range l {
		x += 0x9e3779b97f4a7c15
		y := (x ^ x>>30) * 0xbf58476d1ce4e5b9
		y = (y ^ y>>27) * 0x94d049bb133111eb
		l[i] = y ^ y>>31
	}
	return l
}

// lists are all lists of at most that many of these numbers.
func lists(most int, of ...uint64) [][]uint64 {
	l := [][]uint64{nil}
	for last := l; most > 0; most-- {
		var longer [][]uint64
		for _, x := range last {
			for _, n := range of {
				longer = append(longer, append(slices.Clone(x), n))
			}
		}
		l = append(l, longer...)
		last = longer
	}
	return l
}

// wanted is the sketch of all these numbers and the error, told from a map of them.
func wanted(parts ...[]uint64) (api.Exact, api.Errno) {
	set := map[uint64]struct{}{}
	for _, l := range parts {
		for _, n := range l {
			set[n] = struct{}{}
		}
	}
	if len(set) > 64 {
		return api.Exact{}, api.ErrExact
	}
	return of(slices.Sorted(maps.Keys(set))...), api.OK
}

// rights are exact sketches.
func rights() []api.Exact {
	return []api.Exact{
		{}, of([]uint64{}...), of(0), of(1), of(last), of(0, last), of(0, 1, 2), of(3, 5), of(1<<63-1, 1<<63, 1<<63+1), of(last-1, last), of(1<<32-1, 1<<32),
		of(up(0, 63)...), of(up(0, 64)...), of(up(1000, 64)...), of(up(last-63, 64)...), of(append(up(0, 63), last)...), of(slices.Sorted(slices.Values(many(64)))...),
	}
}

// wrongs are lists that are no sketches: too long, or not rising, at their beginnings, in between, at their ends.
func wrongs() []api.Exact {
	l := []api.Exact{
		of(0, 0), of(2, 2), of(last, last), of(1, 0), of(5, 3), of(last, 0), of(1<<63, 1<<63-1), of(1, 2, 2), of(1, 1, 2), of(2, 1, 3), of(1, 3, 2), of(1, 2, 1), of(1, 2, 3, 0), of(3, 2, 1), of(0, 1, 0, 1),
		of(up(0, 65)...), of(up(last-64, 65)...), of(up(0, 66)...), of(up(0, 128)...), of(up(0, 100000)...), of(many(64)...),
		of(slices.Repeat([]uint64{7}, 64)...), of(slices.Repeat([]uint64{7}, 65)...), of(slices.Repeat([]uint64{7}, 100000)...),
		of(append(up(0, 63), 62)...), of(append(up(0, 63), 0)...), of(append([]uint64{1}, up(1, 63)...)...), of(append([]uint64{last}, up(0, 63)...)...), of(append(up(0, 64), 63)...), of(append(up(0, 64), 0)...),
	}
	for i := range 63 {
		x := up(10, 64)
		x[i+1] = x[i]
		y := up(10, 64)
		y[i], y[i+1] = y[i+1], y[i]
		l = append(l, of(x...), of(y...))
	}
	return l
}

// short is what v looks like, up to a length that can be read.
func short(v any) string {
	s := fmt.Sprint(v)
	return s[:min(len(s), 300)]
}

// same tells what is wrong, if a sketch and an error are others than those that are wanted.
func same(t *testing.T, what any, x api.Exact, e api.Errno, want api.Exact, f api.Errno) {
	t.Helper()
	if !slices.Equal(x.L, want.L) || e != f {
		t.Errorf("%s: %v, %d, not %v, %d", short(what), x.L, e, want.L, f)
	}
}

// P6.1: what is an exact sketch, with its numbers.
func TestRight(t *testing.T) {
	for _, x := range rights() {
		if !exact.Right(x) || exact.Count(x) != uint64(len(x.L)) {
			t.Errorf("%v: %v, %d", x.L, exact.Right(x), exact.Count(x))
		}
		for _, n := range append([]uint64{0, 1, 2, 3, 4, 5, 62, 63, 64, 1 << 32, 1<<63 - 1, 1 << 63, last - 64, last - 63, last - 1, last}, x.L...) {
			if want := slices.Contains(x.L, n); exact.Has(x, n) != want {
				t.Errorf("%v, %d: not %v", x.L, n, want)
			}
			if n > 0 && exact.Has(x, n-1) != slices.Contains(x.L, n-1) || n < last && exact.Has(x, n+1) != slices.Contains(x.L, n+1) {
				t.Errorf("%v: beside %d", x.L, n)
			}
		}
	}
}

// P6.1: what is none has no number.
func TestNotRight(t *testing.T) {
	for _, x := range wrongs() {
		if exact.Right(x) || exact.Count(x) != 0 {
			t.Errorf("%s: %v, %d", short(x.L), exact.Right(x), exact.Count(x))
		}
		for _, n := range append([]uint64{0, 1, 7, last}, x.L[:min(len(x.L), 70)]...) {
			if exact.Has(x, n) {
				t.Errorf("%s has %d", short(x.L), n)
			}
		}
	}
}

// P6.1: all short lists, of numbers at both ends too: right ones rise.
func TestRightOfAll(t *testing.T) {
	for _, l := range lists(5, 0, 1, 2, last) {
		is := true
		for i := range l {
			is = is && (i == 0 || l[i-1] < l[i])
		}
		count := 0
		if is {
			count = len(l)
		}
		if exact.Right(of(l...)) != is || exact.Count(of(l...)) != uint64(count) {
			t.Errorf("%v: not %v, %d", l, is, count)
		}
		for _, n := range []uint64{0, 1, 2, 3, last - 1, last} {
			if want := is && slices.Contains(l, n); exact.Has(of(l...), n) != want {
				t.Errorf("%v, %d: not %v", l, n, want)
			}
		}
	}
}

// P6.1: the chapter's example, and numbers as they come.
func TestOf(t *testing.T) {
	x, e := exact.Of([]uint64{5, 3, 5})
	same(t, "5, 3, 5", x, e, of(3, 5), api.OK)
	x, e = exact.Of(nil)
	same(t, "nothing", x, e, of(), api.OK)
	x, e = exact.Of([]uint64{})
	same(t, "nothing", x, e, of(), api.OK)
	x, e = exact.Of([]uint64{last, 0, 1 << 63, 1<<63 - 1, last, 0})
	same(t, "both ends", x, e, of(0, 1<<63-1, 1<<63, last), api.OK)
	for _, l := range lists(6, 0, 1, 2, last) {
		want, f := wanted(l)
		x, e := exact.Of(l)
		same(t, l, x, e, want, f)
		if !exact.Right(x) {
			t.Errorf("%v: %v is no sketch", l, x.L)
		}
	}
}

// P6.1: how many different numbers there are, not how many numbers, is what counts.
func TestOfMany(t *testing.T) {
	for _, l := range [][]uint64{
		up(0, 63), up(0, 64), up(last-63, 64), many(64), append(many(64), many(64)...), slices.Repeat(up(0, 64), 1000), slices.Repeat([]uint64{7}, 100000),
		append(slices.Repeat([]uint64{7}, 64), up(8, 63)...), append(up(0, 64), 0), append(up(0, 64), 63), append(up(0, 64), 32), append(up(1, 63), 0, 0, 0),
	} {
		want, f := wanted(l)
		if f != api.OK {
			t.Errorf("%s: %d", short(l), f)
		}
		x, e := exact.Of(l)
		same(t, l, x, e, want, api.OK)
		slices.Reverse(l)
		x, e = exact.Of(l)
		same(t, l, x, e, want, api.OK)
	}
	for _, l := range [][]uint64{
		up(0, 65), up(last-64, 65), many(65), append(up(0, 64), last), append(up(1, 64), 0), append(up(1, 64), slices.Repeat([]uint64{0}, 1000)...), append(slices.Repeat(up(0, 64), 1000), 64), up(0, 100000), many(100000),
	} {
		x, e := exact.Of(l)
		same(t, l, x, e, of(), api.ErrExact)
		slices.Reverse(l)
		x, e = exact.Of(l)
		same(t, l, x, e, of(), api.ErrExact)
	}
}

// P6.1: lists that are the same, right or not, and lists that are not.
func TestSame(t *testing.T) {
	l := lists(4, 0, 1, last)
	for _, x := range l {
		for _, y := range l {
			if want := slices.Equal(x, y); exact.Same(of(x...), of(slices.Clone(y)...)) != want {
				t.Errorf("%v, %v: not %v", x, y, want)
			}
		}
	}
	if !exact.Same(api.Exact{}, api.Exact{L: []uint64{}}) || !exact.Same(api.Exact{L: []uint64{}}, api.Exact{}) {
		t.Error("nil and empty lists")
	}
	all := append(rights()[2:], wrongs()...)
	for i, x := range all {
		for j, y := range all {
			if exact.Same(x, of(slices.Clone(y.L)...)) != (i == j) {
				t.Errorf("%s, %s", short(x.L), short(y.L))
			}
		}
		if n := len(x.L) - 1; exact.Same(x, of(x.L[:n]...)) || exact.Same(of(x.L[1:]...), x) {
			t.Errorf("%s, and parts of it", short(x.L))
		}
	}
}

// P6.2: a number more, wherever its place is, or one that is there.
func TestAdd(t *testing.T) {
	for _, x := range rights() {
		for _, n := range append([]uint64{0, 1, 2, 3, 4, 5, 62, 63, 64, 1 << 32, 1<<63 - 1, 1 << 63, last - 64, last - 63, last - 1, last}, x.L...) {
			want, f := wanted(x.L, []uint64{n})
			y, e := exact.Add(x, n)
			same(t, []any{x.L, n}, y, e, want, f)
			if !exact.Right(y) || e == api.OK && !exact.Has(y, n) {
				t.Errorf("%v, %d: %v", x.L, n, y.L)
			}
		}
	}
	for i := range 65 {
		x := of(slices.Delete(up(10, 65), i, i+1)...)
		y, e := exact.Add(x, 10+uint64(i))
		same(t, x.L, y, e, of(), api.ErrExact)
	}
	for i := range 64 {
		x := of(slices.Delete(up(10, 64), i, i+1)...)
		y, e := exact.Add(x, 10+uint64(i))
		same(t, x.L, y, e, of(up(10, 64)...), api.OK)
	}
	for _, n := range up(10, 64) {
		y, e := exact.Add(of(up(10, 64)...), n)
		same(t, n, y, e, of(up(10, 64)...), api.OK)
	}
}

// P6.2: two sketches' numbers, each once, as long as there are few.
func TestMerge(t *testing.T) {
	for _, x := range rights() {
		for _, y := range rights() {
			want, f := wanted(x.L, y.L)
			z, e := exact.Merge(x, y)
			same(t, []any{x.L, y.L}, z, e, want, f)
			if !exact.Right(z) {
				t.Errorf("%v, %v: %v is no sketch", x.L, y.L, z.L)
			}
		}
	}
	for n := range 65 {
		for common := range n + 1 {
			x, y := up(100, n), up(100+uint64(n-common), 64-n+common)
			z, e := exact.Merge(of(x...), of(y...))
			same(t, []any{x, y}, z, e, of(up(100, 64)...), api.OK)
			if common > 0 {
				z, e = exact.Merge(of(x...), of(append(y, 1000)[1:]...))
				want, f := wanted(x, y[1:], []uint64{1000})
				same(t, []any{x, y, "and another one"}, z, e, want, f)
			}
		}
	}
	odd, even := up(0, 33), up(0, 33)
	for i := range odd {
		odd[i], even[i] = 2*odd[i]+1, 2*even[i]
	}
	z, e := exact.Merge(of(odd[:32]...), of(even[:32]...))
	same(t, "by turns", z, e, of(up(0, 64)...), api.OK)
	z, e = exact.Merge(of(odd[:32]...), of(even...))
	same(t, "by turns, too many", z, e, of(), api.ErrExact)
	z, e = exact.Merge(of(odd...), of(even[:32]...))
	same(t, "by turns, too many", z, e, of(), api.ErrExact)
}

// P6.2: what is no sketch is refused, even if its numbers are few, or add nothing.
func TestOfWrong(t *testing.T) {
	for _, x := range wrongs() {
		for _, n := range []uint64{0, 2, x.L[0], x.L[len(x.L)-1], last} {
			y, e := exact.Add(x, n)
			same(t, []any{x.L, n}, y, e, of(), api.ErrExact)
		}
		for _, y := range []api.Exact{{}, of(0), of(2), of(last), of(up(10, 64)...), x, of(0, 0)} {
			z, e := exact.Merge(x, y)
			same(t, []any{x.L, y.L}, z, e, of(), api.ErrExact)
			z, e = exact.Merge(y, x)
			same(t, []any{y.L, x.L}, z, e, of(), api.ErrExact)
		}
	}
}

// P6.3: in whatever order numbers come, one by one or all at once, the sketch is the same.
func TestOrders(t *testing.T) {
	for _, l := range lists(6, 0, 3, 1<<63, last) {
		want, f := wanted(l)
		x := api.Exact{}
		for _, n := range l {
			var e api.Errno
			if x, e = exact.Add(x, n); e != f {
				t.Errorf("%v: %d", l, e)
			}
		}
		y, e := exact.Of(l)
		if !exact.Same(x, want) || !exact.Same(x, y) || e != f {
			t.Errorf("%v: %v one by one, %v at once, not %v", l, x.L, y.L, want.L)
		}
	}
}

// P6.3: in whatever parts numbers come, merged they are the same, and have what each part has.
func TestParts(t *testing.T) {
	for _, l := range [][]uint64{up(0, 64), many(64), append(many(40), many(24)...), slices.Repeat(many(5), 12), append(up(last-31, 32), up(0, 32)...)} {
		want, _ := wanted(l)
		for _, size := range []int{1, 2, 3, 7, 31, 63, 64} {
			var forth, back api.Exact
			var parts []api.Exact
			for part := range slices.Chunk(l, size) {
				x, e := exact.Of(part)
				var f, g api.Errno
				forth, f = exact.Merge(forth, x)
				back, g = exact.Merge(x, back)
				if e != api.OK || f != api.OK || g != api.OK {
					t.Errorf("%v by %d: %d, %d, %d", l, size, e, f, g)
				}
				parts = append(parts, x)
			}
			if !exact.Same(forth, want) || !exact.Same(back, want) {
				t.Errorf("%v by %d: %v, %v", l, size, forth.L, back.L)
			}
			for _, x := range parts {
				for _, n := range x.L {
					if !exact.Has(forth, n) || !exact.Has(back, n) {
						t.Errorf("%v by %d: without %d", l, size, n)
					}
				}
			}
		}
	}
}

// P6.3: all short sketches, merged two by two and three by three, in each order.
func TestMergedOrders(t *testing.T) {
	var all []api.Exact
	for _, l := range lists(3, 0, 1, 5, last) {
		if x := of(l...); exact.Right(x) {
			all = append(all, x)
		}
	}
	merge := func(x, y api.Exact) api.Exact {
		z, e := exact.Merge(x, y)
		if e != api.OK {
			t.Errorf("%v, %v: %d", x.L, y.L, e)
		}
		return z
	}
	for _, x := range all {
		for _, y := range all {
			if want, _ := wanted(x.L, y.L); !exact.Same(merge(x, y), want) || !exact.Same(merge(y, x), want) {
				t.Errorf("%v, %v: not %v", x.L, y.L, want.L)
			}
			for _, z := range all {
				if !exact.Same(merge(merge(x, y), z), merge(x, merge(y, z))) {
					t.Errorf("%v, %v, %v", x.L, y.L, z.L)
				}
			}
		}
	}
}

// spoil writes into a list, and into its spare room.
func spoil(l []uint64) {
	l = l[:cap(l)]
	for i := range l {
		l[i] = 12345
	}
}

// R3, R4: lists that are handed in stay as they are, with their spare room, and no answer shares any with them, nor with another answer.
func TestOnesOwn(t *testing.T) {
	room := append(up(10, 64), 3, 2, 1)
	want := slices.Clone(room)
	x, y := api.Exact{L: room[:30]}, api.Exact{L: room[20:40]}
	for _, call := range []func() (api.Exact, api.Errno){
		func() (api.Exact, api.Errno) { return exact.Of(room[:0]) },
		func() (api.Exact, api.Errno) { return exact.Of(room[:30]) },
		func() (api.Exact, api.Errno) { return exact.Of(room[62:66]) },
		func() (api.Exact, api.Errno) { return exact.Add(x, 10) },
		func() (api.Exact, api.Errno) { return exact.Add(x, 39) },
		func() (api.Exact, api.Errno) { return exact.Add(x, 9) },
		func() (api.Exact, api.Errno) { return exact.Add(x, 1000) },
		func() (api.Exact, api.Errno) { return exact.Add(api.Exact{L: room[:0]}, 5) },
		func() (api.Exact, api.Errno) { return exact.Add(api.Exact{L: room[:65]}, 5) },
		func() (api.Exact, api.Errno) { return exact.Add(api.Exact{L: room[:64]}, 10) },
		func() (api.Exact, api.Errno) { return exact.Merge(x, y) },
		func() (api.Exact, api.Errno) { return exact.Merge(y, x) },
		func() (api.Exact, api.Errno) { return exact.Merge(x, x) },
		func() (api.Exact, api.Errno) { return exact.Merge(x, api.Exact{}) },
		func() (api.Exact, api.Errno) { return exact.Merge(api.Exact{}, x) },
		func() (api.Exact, api.Errno) { return exact.Merge(api.Exact{L: room[:0]}, api.Exact{L: room[5:5]}) },
		func() (api.Exact, api.Errno) { return exact.Merge(x, api.Exact{L: room[60:65]}) },
	} {
		first, e := call()
		kept := slices.Clone(first.L)
		second, f := call()
		if e != f || !slices.Equal(first.L, second.L) {
			t.Errorf("%v, %d, then %v, %d", first.L, e, second.L, f)
		}
		spoil(second.L)
		if !slices.Equal(first.L, kept) || !slices.Equal(room, want) {
			t.Errorf("%v: %v", kept, room)
		}
	}
	exact.Has(x, 10)
	exact.Same(x, y)
	exact.Right(x)
	exact.Count(x)
	if !slices.Equal(room, want) {
		t.Error("handed in:", room)
	}
}
