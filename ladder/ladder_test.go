package ladder_test

import (
	"cmp"
	"fmt"
	"math"
	"slices"
	"testing"

	"aviary/api"
	"aviary/cms"
	"aviary/exact"
	"aviary/hist"
	"aviary/hll"
	"aviary/ladder"
)

const last = 1<<64 - 1

// bottoms are the kinds, and their greatest levels.
var bottoms = map[int]int{1: 4, 2: 3, 3: 3}

// many has numbers of all sorts, the same ones in each run.
func many(n int) []uint64 {
	l := make([]uint64, n)
	x := uint64(1)
	for i := range l {
		x += 0x9e3779b97f4a7c15
		y := (x ^ x>>30) * 0xbf58476d1ce4e5b9
		y = (y ^ y>>27) * 0x94d049bb133111eb
		l[i] = y ^ y>>31
	}
	return l
}

// items are these numbers, coming so often, by turns.
func items(h []uint64, often ...uint64) []api.Item {
	l := make([]api.Item, len(h))
	for i := range l {
		l[i] = api.Item{H: h[i], N: often[i%len(often)]}
	}
	return l
}

// up has n numbers, each one more than the one ahead.
func up(from uint64, n int) []uint64 {
	l := make([]uint64, n)
	for i := range l {
		l[i] = from + uint64(i)
	}
	return l
}

// differing is how many different numbers items have.
func differing(l []api.Item) int {
	set := map[uint64]struct{}{}
	for _, i := range l {
		set[i.H] = struct{}{}
	}
	return len(set)
}

// need is a lower layer's answer that must not be an error.
func need[T any](x T, e api.Errno) T {
	if e != api.OK {
		panic(e)
	}
	return x
}

// wanted is what items come to at that level, or at the one that they need: never lowered, nor merged, but told to what the chapters below make for that level.
func wanted(kind, level int, l ...api.Item) api.Sketch {
	x := api.Sketch{Kind: kind, Level: level}
	var numbers []uint64
	for _, i := range l {
		numbers = append(numbers, i.H)
	}
	switch kind {
	case api.KindDistinct:
		if level == 0 && differing(l) > 64 {
			x.Level = 1
		}
		if x.Level == 0 {
			x.E = need(exact.Of(numbers))
		} else {
			x.H = need(hll.Of(8-x.Level, numbers))
		}
	case api.KindCount:
		x.C = need(cms.New(2, []int{32, 16, 8, 4}[level]))
		for _, i := range l {
			x.C = need(cms.Add(x.C, i.H, i.N))
		}
	case api.KindHist:
		x.G.Fine = 3 - level
		for _, i := range l {
			x.G = need(hist.Add(x.G, i.H, i.N))
		}
	}
	return x
}

// loads are items of all sorts: none, few, as many as an exact set has, more.
func loads() [][]api.Item {
	return [][]api.Item{
		nil,
		items([]uint64{0}, 1),
		items([]uint64{last}, last),
		items([]uint64{5 << 32, 37 << 32}, 3, 4),
		items([]uint64{0, 1, 2, 3, 100, 1 << 63, last}, 1, 0, 5),
		items(append(up(0, 32), up(16, 32)...), 2),
		items(many(63), 1, 2),
		items(many(64), 1),
		items(append(many(64), many(64)...), 1<<63, 7),
		items(up(last-63, 64), 1),
		items(many(65), 1),
		items(up(0, 66), 1<<62),
		items(many(300), last, 0, 3),
	}
}

// rights are sketches of all kinds, at all levels.
func rights() []api.Sketch {
	var l []api.Sketch
	for kind := 1; kind <= 3; kind++ {
		for level := 0; level <= bottoms[kind]; level++ {
			for _, load := range loads() {
				l = append(l, wanted(kind, level, load...))
			}
		}
	}
	return l
}

// alien are parts of a sketch that are not empty.
func alien() []func(x *api.Sketch) {
	return []func(x *api.Sketch){
		func(x *api.Sketch) { x.E.L = []uint64{1} },
		func(x *api.Sketch) { x.E.L = []uint64{2, 2} },
		func(x *api.Sketch) { x.E.L = up(0, 65) },
		func(x *api.Sketch) { x.H = need(hll.New(7)) },
		func(x *api.Sketch) { x.H.Bits = 3 },
		func(x *api.Sketch) { x.H.Bits = -1 },
		func(x *api.Sketch) { x.H.Regs = "\x00" },
		func(x *api.Sketch) { x.C = need(cms.New(2, 32)) },
		func(x *api.Sketch) { x.C.Rows = 1 },
		func(x *api.Sketch) { x.C.Cols = 4 },
		func(x *api.Sketch) { x.C.L = []uint64{0} },
		func(x *api.Sketch) { x.G.Fine = 1 },
		func(x *api.Sketch) { x.G.Fine = -3 },
		func(x *api.Sketch) { x.G.L = []api.Bin{{}} },
		func(x *api.Sketch) { x.G.L = []api.Bin{{At: 1, N: 1}} },
	}
}

// beside tells whether y has what x holds, but differs from it: it has something that x may not have.
func beside(x, y api.Sketch) bool {
	var held bool
	switch {
	case x.Kind == api.KindDistinct && x.Level == 0:
		held = slices.Equal(x.E.L, y.E.L)
	case x.Kind == api.KindDistinct:
		held = x.H == y.H
	case x.Kind == api.KindCount:
		held = cms.Same(x.C, y.C)
	case x.Kind == api.KindHist:
		held = hist.Same(x.G, y.G)
	}
	return held && !equal(x, y)
}

// spoiled are sketches that have one part more than they may have.
func spoiled() []api.Sketch {
	var l []api.Sketch
	for _, x := range rights() {
		for _, spoil := range alien() {
			y := x
			spoil(&y)
			if beside(x, y) {
				l = append(l, y)
			}
		}
	}
	return l
}

// misplaced are sketches that are right but for their kind, or their level.
func misplaced() []api.Sketch {
	var l []api.Sketch
	for _, x := range rights() {
		for _, level := range []int{math.MinInt, -1 << 32, -4, -1, 0, 1, 2, 3, 4, 5, 8, 1 << 32, math.MaxInt} {
			if level != x.Level {
				y := x
				y.Level = level
				l = append(l, y)
			}
		}
		for _, kind := range []int{math.MinInt, -1, 0, 1, 2, 3, 4, 1<<32 + 1, math.MaxInt} {
			if kind != x.Kind {
				y := x
				y.Kind = kind
				l = append(l, y)
			}
		}
	}
	return l
}

// broken are sketches whose own part is not right, or not of their level.
func broken() []api.Sketch {
	l := []api.Sketch{
		{}, {Kind: 1, E: api.Exact{L: []uint64{1, 1}}}, {Kind: 1, E: api.Exact{L: []uint64{2, 1}}}, {Kind: 1, E: api.Exact{L: up(0, 65)}}, {Kind: 1, Level: 1}, {Kind: 1, Level: 4}, {Kind: 1, Level: 5, H: need(hll.New(3))}, {Kind: 1, Level: 0, H: need(hll.New(8))},
		{Kind: 2}, {Kind: 2, Level: 3}, {Kind: 2, Level: 4}, {Kind: 2, Level: 4, C: api.Cms{Rows: 2, Cols: 2, L: make([]uint64, 4)}}, {Kind: 2, Level: -1, C: api.Cms{Rows: 2, Cols: 64, L: make([]uint64, 128)}},
		{Kind: 3}, {Kind: 3, Level: 4, G: api.Hist{Fine: -1}}, {Kind: 3, Level: -1, G: api.Hist{Fine: 4}}, {Kind: 3, G: api.Hist{Fine: 3, L: []api.Bin{{At: 1}}}}, {Kind: 3, G: api.Hist{Fine: 3, L: []api.Bin{{At: 2, N: 1}}}},
		{Kind: 3, G: api.Hist{Fine: 3, L: []api.Bin{{At: 9, N: 1}, {At: 1, N: 1}}}}, {Kind: 3, Level: 3, G: api.Hist{L: []api.Bin{{At: 65, N: 1}}}},
	}
	for level := 1; level <= 4; level++ {
		for bits := -1; bits <= 9; bits++ {
			if bits == 8-level {
				continue
			}
			x, _ := hll.New(bits)
			l = append(l, api.Sketch{Kind: 1, Level: level, H: x}, api.Sketch{Kind: 1, Level: level, H: api.Hll{Bits: bits, Regs: need(hll.New(8 - level)).Regs}})
		}
		x := need(hll.New(8 - level))
		l = append(l, api.Sketch{Kind: 1, Level: level, H: api.Hll{Bits: x.Bits, Regs: x.Regs[1:]}}, api.Sketch{Kind: 1, Level: level, H: api.Hll{Bits: x.Bits, Regs: x.Regs[1:] + "\xff"}})
	}
	for level, cols := range []int{32, 16, 8, 4} {
		for rows := 1; rows <= 4; rows++ {
			for _, other := range []int{4, 8, 16, 32} {
				if rows != 2 || cols != other {
					l = append(l, api.Sketch{Kind: 2, Level: level, C: need(cms.New(rows, other))})
				}
			}
		}
		x := need(cms.New(2, cols))
		l = append(l, api.Sketch{Kind: 2, Level: level, C: api.Cms{Rows: 2, Cols: cols, L: x.L[1:]}}, api.Sketch{Kind: 2, Level: level, C: api.Cms{Rows: 2, Cols: cols, L: append(x.L, 0)}}, api.Sketch{Kind: 2, Level: level, C: api.Cms{Rows: 2, Cols: cols}})
		for fine := -1; fine <= 4; fine++ {
			if fine != 3-level {
				l = append(l, api.Sketch{Kind: 3, Level: level, G: api.Hist{Fine: fine}}, api.Sketch{Kind: 3, Level: level, G: api.Hist{Fine: fine, L: []api.Bin{{At: 0, N: 1}}}})
			}
		}
	}
	return l
}

// equal tells whether two are the same, field by field.
func equal(x, y api.Sketch) bool {
	return x.Kind == y.Kind && x.Level == y.Level && slices.Equal(x.E.L, y.E.L) && x.H == y.H && x.C.Rows == y.C.Rows && x.C.Cols == y.C.Cols && slices.Equal(x.C.L, y.C.L) && x.G.Fine == y.G.Fine && slices.Equal(x.G.L, y.G.L)
}

// short is what v looks like, up to a length that can be read.
func short(v any) string {
	s := fmt.Sprintf("%+q", fmt.Sprint(v))
	return s[:min(len(s), 300)]
}

// same tells what is wrong, if a sketch and an error are others than those that are wanted.
func same(t *testing.T, what any, x api.Sketch, e api.Errno, want api.Sketch, f api.Errno) {
	t.Helper()
	if !equal(x, want) || e != f {
		t.Errorf("%s: %s, %d, not %s, %d", short(what), short(x), e, short(want), f)
	}
	if e == api.OK && !ladder.Right(x) {
		t.Errorf("%s: %s is not right", short(what), short(x))
	}
}

// added is x with items, added one by one.
func added(t *testing.T, x api.Sketch, l ...api.Item) api.Sketch {
	t.Helper()
	for _, i := range l {
		y, e := ladder.Add(x, i)
		if e != api.OK {
			t.Fatalf("%s, %v: %d", short(x), i, e)
		}
		x = y
	}
	return x
}

// P10.1: what is a sketch, of each kind, at each level, its empty parts nil or not.
func TestRight(t *testing.T) {
	for _, x := range rights() {
		y := x
		if y.E.L == nil {
			y.E.L = []uint64{}
		}
		if y.C.L == nil {
			y.C.L = []uint64{}
		}
		if y.G.L == nil {
			y.G.L = []api.Bin{}
		}
		if !ladder.Right(x) || !ladder.Right(y) || !ladder.Same(x, y) {
			t.Error(short(x))
		}
	}
}

// P10.1, P10.2: what is none is refused, by whatever it is handed to, costs nothing and tells nothing.
func TestNotRight(t *testing.T) {
	partners := []api.Sketch{wanted(1, 0), wanted(1, 2), wanted(2, 0), wanted(3, 3), {}, {Kind: 7}}
	for n, x := range slices.Concat(broken(), misplaced(), spoiled()) {
		if ladder.Right(x) || ladder.Cost(x) != 0 {
			t.Errorf("%s: %v, %d", short(x), ladder.Right(x), ladder.Cost(x))
		}
		for _, h := range []uint64{0, 1, 5 << 32, last} {
			if got := ladder.Ask(x, h); got != 0 {
				t.Errorf("%s, %d: %d", short(x), h, got)
			}
		}
		y, e := ladder.Add(x, api.Item{H: 1, N: 1})
		same(t, x, y, e, api.Sketch{}, api.ErrSketch)
		y, e = ladder.Lower(x)
		same(t, x, y, e, api.Sketch{}, api.ErrSketch)
		for _, level := range []int{math.MinInt, -1, 0, 1, x.Level, 3, 4, 5, math.MaxInt} {
			y, e = ladder.To(x, level)
			same(t, []any{level, x}, y, e, api.Sketch{}, api.ErrSketch)
		}
		for _, z := range []api.Sketch{partners[n%len(partners)], x} {
			y, e = ladder.Merge(x, z)
			same(t, x, y, e, api.Sketch{}, api.ErrSketch)
			y, e = ladder.Merge(z, x)
			same(t, x, y, e, api.Sketch{}, api.ErrSketch)
		}
	}
}

// P10.1: empty ones of the three kinds, their levels and costs; of no kind none.
func TestNew(t *testing.T) {
	kinds := []int{math.MinInt, math.MinInt + 1, -1 << 32, 1 << 32, 1<<32 + 1, 1<<32 + 2, math.MaxInt}
	for kind := -20; kind <= 300; kind++ {
		kinds = append(kinds, kind)
	}
	for _, kind := range kinds {
		x, e := ladder.New(kind)
		if bottom, is := bottoms[kind]; is {
			same(t, kind, x, e, wanted(kind, 0), api.OK)
			if ladder.Bottom(kind) != bottom {
				t.Errorf("%d: %d", kind, ladder.Bottom(kind))
			}
			continue
		}
		same(t, kind, x, e, api.Sketch{}, api.ErrKind)
		if ladder.Bottom(kind) != -1 {
			t.Errorf("%d: %d", kind, ladder.Bottom(kind))
		}
	}
}

// P10.1: the chapter's costs, and others.
func TestCost(t *testing.T) {
	for _, c := range []struct {
		x    api.Sketch
		cost int
	}{
		{wanted(1, 0), 16}, {wanted(2, 0), 528}, {wanted(3, 0), 16},
		{wanted(1, 0, items(many(1), 1)...), 24}, {wanted(1, 0, items(many(64), 1)...), 528}, {wanted(1, 0, items(many(65), 1)...), 144},
		{wanted(1, 1), 144}, {wanted(1, 2), 80}, {wanted(1, 3), 48}, {wanted(1, 4), 32}, {wanted(1, 4, items(many(65), 1)...), 32},
		{wanted(2, 1), 272}, {wanted(2, 2), 144}, {wanted(2, 3), 80}, {wanted(2, 3, items(many(65), 1)...), 80},
		{wanted(3, 0, items(up(0, 8), 5)...), 144}, {wanted(3, 3, items(up(0, 8), 5)...), 80}, {wanted(3, 3), 16}, {wanted(3, 1, items(up(0, 8), 0)...), 16},
	} {
		if n := ladder.Cost(c.x); n != c.cost {
			t.Errorf("%s: %d, not %d", short(c.x), n, c.cost)
		}
	}
	for _, x := range rights() {
		if n, want := ladder.Cost(x), 16+8*len(x.E.L)+len(x.H.Regs)+8*len(x.C.L)+16*len(x.G.L); n != want {
			t.Errorf("%s: %d, not %d", short(x), n, want)
		}
	}
}

// P10.1: what each kind tells, at each level.
func TestAsk(t *testing.T) {
	for _, x := range rights() {
		for _, h := range append(many(10), 0, 1, 2, 3, 99, 100, 5<<32, 37<<32, 1<<63-1, 1<<63, last-1, last) {
			want := uint64(0)
			switch {
			case x.Kind == api.KindDistinct && x.Level == 0:
				want = uint64(len(x.E.L))
			case x.Kind == api.KindDistinct:
				want = hll.Count(x.H)
			case x.Kind == api.KindCount:
				want = cms.Count(x.C, h)
			case x.Kind == api.KindHist:
				want = hist.Rank(x.G, h)
			}
			if n := ladder.Ask(x, h); n != want {
				t.Errorf("%s, %d: %d, not %d", short(x), h, n, want)
			}
		}
	}
	x := wanted(2, 0, items([]uint64{5 << 32, 37 << 32}, 3, 4)...)
	if n := ladder.Ask(x, 5<<32); n != 7 {
		t.Error("counters:", n)
	}
	if n := ladder.Ask(x, 6<<32); n != 0 {
		t.Error("counters:", n)
	}
	y := wanted(3, 0, items([]uint64{100}, 3)...)
	if ladder.Ask(y, 95) != 0 || ladder.Ask(y, 96) != 3 || ladder.Ask(y, last) != 3 {
		t.Error("a histogram")
	}
}

// P10.1: each field of a sketch tells it from others, be they right or not.
func TestSame(t *testing.T) {
	l := []api.Sketch{{}, {Kind: 9, Level: -5}}
	for i, x := range slices.Concat(rights(), broken(), misplaced(), spoiled()) {
		if i%17 == 0 {
			l = append(l, x)
		}
	}
	for _, x := range l {
		for _, y := range l[:100] {
			y.E.L, y.C.L, y.G.L = slices.Clone(y.E.L), slices.Clone(y.C.L), slices.Clone(y.G.L)
			if want := equal(x, y); ladder.Same(x, y) != want || ladder.Same(y, x) != want {
				t.Errorf("%s, %s: not %v", short(x), short(y), want)
			}
		}
		if !ladder.Same(x, x) {
			t.Error(short(x))
		}
		for _, change := range append(alien(), func(x *api.Sketch) { x.Kind++ }, func(x *api.Sketch) { x.Level++ }) {
			y := x
			change(&y)
			if ladder.Same(x, y) != equal(x, y) {
				t.Errorf("%s, %s", short(x), short(y))
			}
		}
	}
}

// P10.2: an item more, at each level.
func TestAdd(t *testing.T) {
	for kind := 1; kind <= 3; kind++ {
		for level := 0; level <= bottoms[kind]; level++ {
			for _, load := range loads() {
				x := wanted(kind, level, load...)
				for _, i := range append(items([]uint64{0, 1, 2, 100, 5 << 32, 1 << 63, last}, 0, 1, 2, 1<<63, last), items(many(66)[60:], 3, 0, last)...) {
					y, e := ladder.Add(x, i)
					same(t, []any{x, i}, y, e, wanted(kind, level, append(slices.Clone(load), i)...), api.OK)
				}
			}
		}
	}
}

// P10.2: a 65th number lowers an exact set, a number that it has does not; how often it comes says nothing.
func TestAddToFull(t *testing.T) {
	l := many(65)
	x := wanted(1, 0, items(l[:64], 0)...)
	for _, h := range l[:64] {
		y, e := ladder.Add(x, api.Item{H: h, N: 5})
		same(t, h, y, e, x, api.OK)
	}
	for _, n := range []uint64{0, 1, last} {
		y, e := ladder.Add(x, api.Item{H: l[64], N: n})
		same(t, n, y, e, api.Sketch{Kind: 1, Level: 1, H: need(hll.Of(7, l))}, api.OK)
		y, e = ladder.Add(wanted(1, 0), api.Item{H: 7, N: n})
		same(t, n, y, e, api.Sketch{Kind: 1, E: api.Exact{L: []uint64{7}}}, api.OK)
	}
}

// P10.2: level by level down, and no further.
func TestLower(t *testing.T) {
	for _, load := range loads() {
		for kind := 1; kind <= 3; kind++ {
			x := wanted(kind, 0, load...)
			for level := x.Level + 1; level <= bottoms[kind]; level++ {
				y, e := ladder.Lower(x)
				same(t, x, y, e, wanted(kind, level, load...), api.OK)
				x = y
			}
			y, e := ladder.Lower(x)
			same(t, x, y, e, api.Sketch{}, api.ErrBottom)
		}
	}
	x, e := ladder.Lower(api.Sketch{Kind: 1, E: api.Exact{L: []uint64{1 << 63}}})
	same(t, "a set", x, e, api.Sketch{Kind: 1, Level: 1, H: need(hll.Add(need(hll.New(7)), 1<<63))}, api.OK)
}

// P10.2: as far down as is asked, never up, and not past the greatest level.
func TestTo(t *testing.T) {
	for kind := 1; kind <= 3; kind++ {
		for from := 0; from <= bottoms[kind]; from++ {
			for _, load := range loads() {
				x := wanted(kind, from, load...)
				for level := -3; level <= 9; level++ {
					y, e := ladder.To(x, level)
					if level > bottoms[kind] {
						same(t, []any{x, level}, y, e, api.Sketch{}, api.ErrBottom)
						continue
					}
					same(t, []any{x, level}, y, e, wanted(kind, max(from, level), load...), api.OK)
				}
				for _, level := range []int{math.MinInt, -1 << 32} {
					y, e := ladder.To(x, level)
					same(t, []any{x, level}, y, e, x, api.OK)
				}
				for _, level := range []int{1 << 32, math.MaxInt} {
					y, e := ladder.To(x, level)
					same(t, []any{x, level}, y, e, api.Sketch{}, api.ErrBottom)
				}
			}
		}
	}
}

// P10.2: two of a kind, at whatever levels they are, come to that of both's items at the lower one.
func TestMerge(t *testing.T) {
	l := loads()
	for kind := 1; kind <= 3; kind++ {
		for a := 0; a <= bottoms[kind]; a++ {
			for b := 0; b <= bottoms[kind]; b++ {
				for i, one := range l {
					for j := i % 2; j < len(l); j += 2 {
						x, y := wanted(kind, a, one...), wanted(kind, b, l[j]...)
						want := wanted(kind, max(x.Level, y.Level), slices.Concat(one, l[j])...)
						z, e := ladder.Merge(x, y)
						same(t, []any{x, y}, z, e, want, api.OK)
						z, e = ladder.Merge(y, x)
						same(t, []any{y, x}, z, e, want, api.OK)
					}
				}
			}
		}
	}
}

// P10.2: exact sets stay exact up to 64 numbers together, and are both lowered of more.
func TestMergeOfSets(t *testing.T) {
	all := api.Sketch{Kind: 1, E: api.Exact{L: up(0, 64)}}
	for n := range 65 {
		for common := range n + 1 {
			x, y := wanted(1, 0, items(up(0, n), 1)...), wanted(1, 0, items(up(uint64(n-common), 64-n+common), 1)...)
			z, e := ladder.Merge(x, y)
			same(t, []any{n, common}, z, e, all, api.OK)
			if len(y.E.L) == 64 {
				continue
			}
			z, e = ladder.Merge(x, added(t, y, api.Item{H: 1000}))
			same(t, []any{n, common, "and another one"}, z, e, api.Sketch{Kind: 1, Level: 1, H: need(hll.Of(7, append(up(0, 64), 1000)))}, api.OK)
		}
	}
	x, y := wanted(1, 0, items(up(0, 64), 1)...), wanted(1, 0, items([]uint64{64}, 1)...)
	for _, pair := range [][2]api.Sketch{{x, y}, {y, x}} {
		z, e := ladder.Merge(pair[0], pair[1])
		same(t, "65 numbers", z, e, api.Sketch{Kind: 1, Level: 1, H: need(hll.Of(7, up(0, 65)))}, api.OK)
	}
	z, e := ladder.Merge(x, x)
	same(t, "64 numbers, twice", z, e, x, api.OK)
}

// P10.2: two of other kinds are not merged, at whatever levels; what is no sketch is told of first.
func TestMergeOfKinds(t *testing.T) {
	l := rights()
	for i, x := range l {
		for j := i % 5; j < len(l); j += 5 {
			if x.Kind == l[j].Kind {
				continue
			}
			z, e := ladder.Merge(x, l[j])
			same(t, []any{x, l[j]}, z, e, api.Sketch{}, api.ErrKind)
		}
	}
	for i, x := range broken() {
		z, e := ladder.Merge(x, l[i%len(l)])
		same(t, x, z, e, api.Sketch{}, api.ErrSketch)
		z, e = ladder.Merge(l[i%len(l)], x)
		same(t, x, z, e, api.Sketch{}, api.ErrSketch)
	}
}

// P10.3: in whatever order items come, the sketch is the same, whenever it was lowered.
func TestOrders(t *testing.T) {
	for kind := 1; kind <= 3; kind++ {
		for _, load := range loads() {
			for level := 0; level <= bottoms[kind]; level++ {
				want := wanted(kind, level, load...)
				for turn, by := range []uint64{1, last, 12345, 987654321} {
					l := slices.Clone(load)
					slices.SortFunc(l, func(a, b api.Item) int { return cmp.Compare(a.H*by, b.H*by) })
					x := need(ladder.New(kind))
					for i, item := range l {
						if i*4 >= turn*len(l) {
							x = need(ladder.To(x, level))
						}
						x = added(t, x, item)
					}
					x, e := ladder.To(x, level)
					same(t, []any{kind, level, turn}, x, e, want, api.OK)
				}
			}
		}
	}
}

// P10.3: in whatever parts items come, at whatever levels these were, merged in whatever order and lowered to one level they are the same.
func TestParts(t *testing.T) {
	for kind := 1; kind <= 3; kind++ {
		for n, load := range loads() {
			for _, size := range []int{1, 3, 10, 64, 1000} {
				deepest := 0
				forth, back := need(ladder.New(kind)), need(ladder.New(kind))
				part := 0
				for chunk := range slices.Chunk(load, size) {
					level := int(many(part + n + 1)[part+n] % uint64(bottoms[kind]+1) / uint64(1+n%2))
					x := added(t, need(ladder.To(need(ladder.New(kind)), level)), chunk...)
					var e, f api.Errno
					forth, e = ladder.Merge(forth, x)
					back, f = ladder.Merge(x, back)
					if e != api.OK || f != api.OK {
						t.Fatalf("%d by %d: %d, %d", kind, size, e, f)
					}
					deepest = max(deepest, level)
					part++
				}
				for level := deepest; level <= bottoms[kind]; level++ {
					want := wanted(kind, level, load...)
					x, e := ladder.To(forth, level)
					same(t, []any{kind, n, size, level, "forth"}, x, e, want, api.OK)
					x, e = ladder.To(back, level)
					same(t, []any{kind, n, size, level, "back"}, x, e, want, api.OK)
				}
			}
		}
	}
}

// P10.3: three sketches, merged in each order, and lowered ahead of that, or behind it.
func TestThree(t *testing.T) {
	three := [][]api.Item{items(many(40), 1, 2), items(many(80)[40:], last, 3), items(up(0, 30), 1<<63)}
	for kind := 1; kind <= 3; kind++ {
		bottom := bottoms[kind]
		want := wanted(kind, bottom, slices.Concat(three...)...)
		for levels := range 125 {
			x, y, z := wanted(kind, min(levels%5, bottom), three[0]...), wanted(kind, min(levels/5%5, bottom), three[1]...), wanted(kind, min(levels/25, bottom), three[2]...)
			left := need(ladder.Merge(need(ladder.Merge(x, y)), z))
			right := need(ladder.Merge(x, need(ladder.Merge(y, z))))
			other := need(ladder.Merge(need(ladder.Merge(z, x)), y))
			if !equal(left, right) || !equal(left, other) {
				t.Errorf("%d, %d: %s, %s, %s", kind, levels, short(left), short(right), short(other))
			}
			low, e := ladder.To(left, bottom)
			same(t, []any{kind, levels}, low, e, want, api.OK)
		}
	}
}

// ruin writes into all of a sketch's memory, spare room too.
func ruin(x api.Sketch) {
	for _, l := range [][]uint64{x.E.L[:cap(x.E.L)], x.C.L[:cap(x.C.L)]} {
		for i := range l {
			l[i] = 12345
		}
	}
	l := x.G.L[:cap(x.G.L)]
	for i := range l {
		l[i] = api.Bin{At: -7, N: 12345}
	}
}

// roomy is x in memory of its own with spare room behind each list, the empty ones too.
func roomy(x api.Sketch) api.Sketch {
	x.E.L = append(slices.Clone(x.E.L), 1, 2, 3)[:len(x.E.L)]
	x.C.L = append(slices.Clone(x.C.L), 1, 2, 3)[:len(x.C.L)]
	x.G.L = append(slices.Clone(x.G.L), api.Bin{At: 1, N: 2}, api.Bin{At: 3, N: 4})[:len(x.G.L)]
	return x
}

// whole is x with its lists as long as their memory, in other memory.
func whole(x api.Sketch) api.Sketch {
	x.E.L, x.C.L, x.G.L = slices.Clone(x.E.L[:cap(x.E.L)]), slices.Clone(x.C.L[:cap(x.C.L)]), slices.Clone(x.G.L[:cap(x.G.L)])
	return x
}

// Rules R3 and R4: sketches that are handed in stay as they are, with their spare room; no answer shares any with them, nor with another answer.
func TestOnesOwn(t *testing.T) {
	for _, right := range rights() {
		x, y := roomy(right), roomy(right)
		ahead := whole(x)
		for i, call := range []func() (api.Sketch, api.Errno){
			func() (api.Sketch, api.Errno) { return ladder.New(x.Kind) },
			func() (api.Sketch, api.Errno) { return ladder.Add(x, api.Item{H: 77, N: 3}) },
			func() (api.Sketch, api.Errno) { return ladder.Add(x, api.Item{H: 0, N: 0}) },
			func() (api.Sketch, api.Errno) { return ladder.Merge(x, y) },
			func() (api.Sketch, api.Errno) { return ladder.Merge(x, x) },
			func() (api.Sketch, api.Errno) { return ladder.Merge(x, need(ladder.New(x.Kind))) },
			func() (api.Sketch, api.Errno) { return ladder.Merge(need(ladder.New(x.Kind)), x) },
			func() (api.Sketch, api.Errno) { return ladder.Lower(x) },
			func() (api.Sketch, api.Errno) { return ladder.To(x, 0) },
			func() (api.Sketch, api.Errno) { return ladder.To(x, x.Level) },
			func() (api.Sketch, api.Errno) { return ladder.To(x, ladder.Bottom(x.Kind)) },
			func() (api.Sketch, api.Errno) { return ladder.To(x, 9) },
		} {
			first, e := call()
			kept := whole(first)
			second, f := call()
			if e != f || !equal(first, second) {
				t.Errorf("%d, %s: %s, %d, then %s, %d", i, short(x), short(first), e, short(second), f)
			}
			ruin(second)
			if !equal(whole(first), kept) || !equal(whole(x), ahead) || !equal(whole(y), ahead) {
				t.Errorf("%d, %s: memory is shared", i, short(right))
			}
		}
		ladder.Right(x)
		ladder.Cost(x)
		ladder.Ask(x, 3)
		ladder.Same(x, y)
		if !equal(whole(x), ahead) {
			t.Errorf("%s: written into", short(right))
		}
	}
}
