package sip_test

import (
	"math/bits"
	"strings"
	"testing"

	"aviary/api"
	"aviary/sip"
)

// key has the bytes 0 to 15.
var key = api.Key{A: 0x0706050403020100, B: 0x0f0e0d0c0b0a0908}

// rising has n bytes, each one more than the one ahead, modulo 256.
func rising(n int) string {
	b := make([]byte, n)
	for i := range b {
		b[i] = byte(i)
	}
	return string(b)
}

// falling has n bytes, each one less than the one ahead, from 255 on, modulo 256.
func falling(n int) string {
	b := make([]byte, n)
	for i := range b {
		b[i] = byte(255 - i)
	}
	return string(b)
}

// many has numbers of all sorts, the same ones in each run.
func many(n int) []uint64 {
	l := make([]uint64, n)
	x := uint64(1)
	for i := range l {
		x += 0x9e3779b97f4a7c15
		y := (x ^ x>>30) * 0xbf58476d1ce4e5b9
		y = (y ^ y>>27) * 0x94d049bb133111eb
		l[i] = y ^ y>>31
	}
	return l
}

// states are the four of nothing, of all digits, of one digit at each place, and many others.
func states() [][4]uint64 {
	all := ^uint64(0)
	l := [][4]uint64{{}, {all, all, all, all}}
	for i := range 256 {
		var v [4]uint64
		v[i/64] = 1 << (i % 64)
		l = append(l, v)
	}
	for i := range 256 {
		v := [4]uint64{all, all, all, all}
		v[i/64] ^= 1 << (i % 64)
		l = append(l, v)
	}
	r := many(4000)
	for i := 0; i < len(r); i += 4 {
		l = append(l, [4]uint64(r[i:i+4]))
	}
	return l
}

// undone is what a round made v of.
func undone(v [4]uint64) [4]uint64 {
	v0, v1, v2, v3 := v[0], v[1], v[2], v[3]
	v2 = bits.RotateLeft64(v2, -32)
	v1 = bits.RotateLeft64(v1^v2, -17)
	v2 -= v1
	v3 = bits.RotateLeft64(v3^v0, -21)
	v0 -= v3
	v3 = bits.RotateLeft64(v3^v2, -16)
	v2 -= v3
	v0 = bits.RotateLeft64(v0, -32)
	v1 = bits.RotateLeft64(v1^v0, -13)
	v0 -= v1
	return [4]uint64{v0, v1, v2, v3}
}

// P1.1: the chapter's example.
func TestSumOfNothing(t *testing.T) {
	if n := sip.Sum(key, ""); n != 0x726fdb47dd0e0e31 {
		t.Errorf("%016x", n)
	}
}

// P1.1: sums round about whole eights, and round about 256 bytes, where the count in the last byte begins anew. The wanted sums are those of another program.
func TestSumOfLengths(t *testing.T) {
	for _, c := range []struct {
		n    int
		want uint64
	}{
		{0, 0x726fdb47dd0e0e31},
		{1, 0x74f839c593dc67fd},
		{7, 0xab0200f58b01d137},
		{8, 0x93f5f5799a932462},
		{9, 0x9e0082df0ba9e4b0},
		{15, 0xa129ca6149be45e5},
		{16, 0x3f2acc7f57c29bdb},
		{17, 0x699ae9f52cbe4794},
		{255, 0xa9c169fec74db21a},
		{256, 0x999d0526d2a7bfd7},
		{257, 0x8a817b8d55b29748},
	} {
		if n := sip.Sum(key, rising(c.n)); n != c.want {
			t.Errorf("%d bytes: %016x, not %016x", c.n, n, c.want)
		}
	}
}

// P1.1: another key, whose halves differ, and bytes above 127.
func TestSumOfAnotherKey(t *testing.T) {
	k := api.Key{A: 1<<64 - 1, B: 1}
	for _, c := range []struct {
		n    int
		want uint64
	}{
		{0, 0x3d44093d886c2c61},
		{7, 0xc2976caf13197bd1},
		{8, 0xccd4856b58685f71},
		{16, 0x59f6551fa47739e4},
		{257, 0xb791ee4f8319b52d},
	} {
		if n := sip.Sum(k, falling(c.n)); n != c.want {
			t.Errorf("%d bytes: %016x, not %016x", c.n, n, c.want)
		}
	}
}

// P1.1: bytes of 0 count as well, though zeros stand behind the last ones anyway.
func TestSumOfZeros(t *testing.T) {
	for n, want := range map[int]uint64{1: 0x74f839c593dc67fd, 2: 0x512233290cc28bde, 8: 0x39d3851ca07681a7} {
		if got := sip.Sum(key, strings.Repeat("\x00", n)); got != want {
			t.Errorf("%d zeros: %016x, not %016x", n, got, want)
		}
	}
}

// P1.1 and R4: a sum hangs on its key and its bytes alone.
func TestSumAgain(t *testing.T) {
	for n := range 40 {
		s := rising(n)
		first := sip.Sum(key, s)
		sip.Sum(api.Key{}, "in between")
		if again := sip.Sum(key, s); again != first {
			t.Errorf("%d bytes: %016x, then %016x", n, first, again)
		}
	}
}

// P1.1: each byte, each place, and each half of the key is in the sum.
func TestSumTellsApart(t *testing.T) {
	seen := map[uint64]string{}
	check := func(what string, n uint64) {
		if other, ok := seen[n]; ok {
			t.Errorf("%s has the sum of %s", what, other)
		}
		seen[n] = what
	}
	s := rising(25)
	check("the bytes", sip.Sum(key, s))
	check("another A", sip.Sum(api.Key{A: key.A ^ 1<<63, B: key.B}, s))
	check("another B", sip.Sum(api.Key{A: key.A, B: key.B ^ 1<<63}, s))
	check("halves changed round", sip.Sum(api.Key{A: key.B, B: key.A}, s))
	for i := range len(s) {
		check("another byte "+s[i:i+1], sip.Sum(key, s[:i]+"\xff"+s[i+1:]))
	}
}

// P1.1: a key's children, that of the empty text too.
func TestChild(t *testing.T) {
	for _, c := range []struct {
		text string
		want api.Key
	}{
		{"", api.Key{A: 0x74f839c593dc67fd, B: 0x6e534dc3c9ab17a2}},
		{"x", api.Key{A: 0x18e458516f04b65c, B: 0xfecc55f7a06f1080}},
		{"token", api.Key{A: 0x0f6bc2dcc1c97f57, B: 0x78290ba474f22ee4}},
		{"\xff\xfe", api.Key{A: 0x44303cafd9022cb8, B: 0x6119408feece0e4d}},
		{"sixteen bytes ab", api.Key{A: 0x2c03e134359d3ad0, B: 0x2ab9a1e2a730e1d4}},
	} {
		if k := sip.Child(key, c.text); k != c.want {
			t.Errorf("%q: %016x %016x", c.text, k.A, k.B)
		}
	}
	for _, n := range []int{0, 1, 6, 7, 8, 255, 256, 257} {
		s := falling(n)
		want := api.Key{A: sip.Sum(key, "\x00"+s), B: sip.Sum(key, "\x01"+s)}
		if k := sip.Child(key, s); k != want {
			t.Errorf("%d bytes: %016x %016x", n, k.A, k.B)
		}
	}
}

// P1.1: rounds.
func TestRound(t *testing.T) {
	all := ^uint64(0)
	top := uint64(1) << 63
	for _, c := range []struct{ v, want [4]uint64 }{
		{[4]uint64{}, [4]uint64{}},
		{[4]uint64{1, 0, 0, 0}, [4]uint64{0x100000000, 0x20001, 0x100000000, 0x100000000}},
		{[4]uint64{0, 1, 0, 0}, [4]uint64{0x100000000, 0x40022001, 0x200100000000, 0x100000000}},
		{[4]uint64{0, 0, 1, 0}, [4]uint64{1, 1, 0x100000000, 0x200001}},
		{[4]uint64{0, 0, 0, 1}, [4]uint64{0x10001, 1, 0x100000000, 0x2000210001}},
		{[4]uint64{1, 2, 3, 4}, [4]uint64{0x300040007, 0x8006400a, 0x400a00000000, 0x8300e40007}},
		{[4]uint64{all, all, all, all}, [4]uint64{0xffffffff00000000, 0xfffffffffffdffff, all, 0xffffffff00200000}},
		{[4]uint64{top, top, top, top}, [4]uint64{0x8000, 0x20001000, 0x100000000000, 0x1000008000}},
		{[4]uint64{0x736f6d6570736575, 0x646f72616e646f6d, 0x6c7967656e657261, 0x7465646279746573}, [4]uint64{0x639487965a898377, 0xfe651ba6cbca2366, 0x3b1450431a71bdd2, 0x35e4d2c22cb914e1}},
	} {
		if v := sip.Round(c.v); v != c.want {
			t.Errorf("%x: %x, not %x", c.v, v, c.want)
		}
	}
}

// P1.1: numbers that are the same, and that are not, at each digit.
func TestSame(t *testing.T) {
	for _, n := range append([]uint64{0, 1, 1 << 63, 1<<64 - 1}, many(100)...) {
		if !sip.Same(n, n) {
			t.Errorf("%x is not the same as itself", n)
		}
		for i := range 64 {
			if m := n ^ 1<<i; sip.Same(n, m) || sip.Same(m, n) {
				t.Errorf("%x is the same as %x", n, m)
			}
		}
		if sip.Same(n, ^n) || sip.Same(n, n+1) {
			t.Errorf("%x is the same as others", n)
		}
	}
}

// P1.2: a round can be undone, and is one that undoes that.
func TestRoundUndone(t *testing.T) {
	for _, v := range states() {
		if u := undone(sip.Round(v)); u != v {
			t.Errorf("%x: %x behind a round that is undone", v, u)
		}
		if u := sip.Round(undone(v)); u != v {
			t.Errorf("%x: %x behind a round of what was undone", v, u)
		}
	}
}

// P1.2: different numbers are different behind a round.
func TestRoundTellsApart(t *testing.T) {
	seen := map[[4]uint64][4]uint64{}
	for _, v := range states() {
		w := sip.Round(v)
		if u, ok := seen[w]; ok && u != v {
			t.Errorf("%x and %x are both %x", u, v, w)
		}
		seen[w] = v
	}
}
