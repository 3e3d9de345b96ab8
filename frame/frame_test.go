package frame_test

import (
	"hash/adler32"
	"slices"
	"strings"
	"testing"

	"aviary/api"
	"aviary/field"
	"aviary/frame"
)

// abc is the chapter's frame.
const abc = "\xa7\x03abc\x02\x4d\x01\x27"

// behinds are what may stand behind a frame.
func behinds() []string {
	return []string{"", "\x00", "x", "\xa7", "\xa7\xf1", "\xa7\x00", abc, strings.Repeat("\xff", 3000)}
}

// bodies are bytes for frames, of sizes at the edges, and of many bytes.
func bodies() []string {
	l := []string{"x", "\x00", "\xa7", "ab", "abc", "\xa7\x01x\x00\x79\x00\x79", abc, abc + abc}
	for _, n := range []int{2, 239, 240, 241, 255, 256, 257, 495, 496, 1000, 1999, 2000} {
		rising := make([]byte, n)
		for i := range rising {
			rising[i] = byte(i * 7)
		}
		l = append(l, string(rising), strings.Repeat("\xff", n), strings.Repeat("\x00", n), strings.Repeat("\xa7", n))
	}
	return l
}

// made is the frame of s.
func made(t *testing.T, s string) string {
	t.Helper()
	f, e := frame.Make(s)
	if e != api.OK {
		t.Fatalf("%x: %d", s, e)
	}
	return f
}

// refused tells what is wrong, if no such error is read, or not all of s is left.
func refused(t *testing.T, s string, want api.Errno) {
	t.Helper()
	if b, rest, e := frame.Read(s); b != "" || rest != s || e != want {
		t.Errorf("Read of %x: %x, %x, %d, not %d", s, b, rest, e, want)
	}
	if l, rest, e := frame.All(s); len(l) != 0 || rest != s || e != want {
		t.Errorf("All of %x: %x, %x, %d, not %d", s, l, rest, e, want)
	}
}

// P3.1: checks, worked out byte by byte; A and B at their edges, and behind them.
func TestCheck(t *testing.T) {
	for _, c := range []struct {
		s    string
		want uint32
	}{
		{"", 0x00000001},
		{"\x00", 0x00010001},
		{"\x00\x00\x00\x00", 0x00040001},
		{"\xff", 0x01000100},
		{"a", 0x00620062},
		{"ab", 0x012600c4},
		{"abc", 0x024d0127},
		{"message digest", 0x29750586},
		{strings.Repeat("\xff", 256) + "\xef", 0x07fffff0},
		{strings.Repeat("\xff", 256) + "\xf0", 0x08000000},
		{strings.Repeat("\xff", 256) + "\xf1", 0x08010001},
		{strings.Repeat("\xff", 2000), 0xafadc89a},
		{strings.Repeat("\xff", 6000), 0xa49759ea},
		{strings.Repeat("\x00", 65520), 0xfff00001},
		{strings.Repeat("\x00", 65521), 0x00000001},
		{strings.Repeat("\x00", 65522), 0x00010001},
		{strings.Repeat("a", 1000000), 0x15d870f9},
	} {
		if n := frame.Check(c.s); n != c.want {
			t.Errorf("%d bytes: %08x, not %08x", len(c.s), n, c.want)
		}
	}
}

// P3.1: checks of all sorts of bytes, held against the library's, which are worked out the same way.
func TestCheckOfMany(t *testing.T) {
	for _, s := range bodies() {
		for i := range len(s) {
			if n, want := frame.Check(s[i:]), adler32.Checksum([]byte(s[i:])); n != want {
				t.Errorf("%x: %08x, not %08x", s[i:], n, want)
			}
		}
	}
}

// P3.1: the chapter's example, and the edges of sizes.
func TestMake(t *testing.T) {
	for _, c := range []struct{ s, want string }{
		{"abc", abc},
		{"x", "\xa7\x01x\x00\x79\x00\x79"},
		{"\x00", "\xa7\x01\x00\x00\x01\x00\x01"},
		{strings.Repeat("x", 240), "\xa7\xf0" + strings.Repeat("x", 240) + "\xf8\x3c\x70\x81"},
		{strings.Repeat("x", 241), "\xa7\xf1\x01" + strings.Repeat("x", 241) + "\x69\x44\x70\xf9"},
		{strings.Repeat("x", 2000), "\xa7\xf7\xe0" + strings.Repeat("x", 2000) + "\xcf\x40\xa9\xae"},
	} {
		if s, e := frame.Make(c.s); s != c.want || e != api.OK {
			t.Errorf("%d bytes: %x, %d", len(c.s), s, e)
		}
	}
}

// P3.1: bytes that are none, or too many.
func TestMakeWrong(t *testing.T) {
	for _, n := range []int{0, 2001, 2002, 100000} {
		if s, e := frame.Make(strings.Repeat("x", n)); s != "" || e != api.ErrFrame {
			t.Errorf("%d bytes: %x, %d", n, s, e)
		}
	}
}

// P3.2, P3.3: a frame that is made is read again, whatever stands behind.
func TestRead(t *testing.T) {
	for _, body := range bodies()[:8] {
		if f := made(t, body); len(f) != 2+len(body)+4 {
			t.Errorf("%x: %x", body, f)
		}
	}
	for _, body := range bodies() {
		f := made(t, body)
		for _, behind := range behinds() {
			if b, rest, e := frame.Read(f + behind); b != body || rest != behind || e != api.OK {
				t.Errorf("%x, ahead of %x: %x, %x, %d", body, behind, b, rest, e)
			}
		}
	}
}

// P3.2: beginnings of no frame, told from the first byte on.
func TestReadWrong(t *testing.T) {
	long := strings.Repeat("\x00", 3000)
	for _, c := range []struct {
		s    string
		want api.Errno
	}{
		{"", api.ErrMore},
		{"\xa7", api.ErrMore},
		{"\xa7\xf1", api.ErrMore},
		{"\xa7\xf9\x00", api.ErrMore},
		{"\xa7\xfa\x00\x00", api.ErrMore},
		{"\xa7\xff\x00\x00\x00\x00\x00\x00\x00", api.ErrMore},
		{"\xa7\x01", api.ErrMore},
		{"\xa7\x01x", api.ErrMore},
		{"\xa7\x01x\x00\x79\x00", api.ErrMore},
		{"\xa7\x01x\xff\xff\xff", api.ErrMore},
		{"\xa7\x05" + abc[2:5] + "\xff\xff\xff\xff", api.ErrMore},
		{"\xa7\xf7\xe0", api.ErrMore},
		{"\xa7\xf7\xe0" + long[:2003], api.ErrMore},

		{"\x00", api.ErrFrame},
		{"x", api.ErrFrame},
		{"\xa6" + abc[1:], api.ErrFrame},
		{"\xa8" + abc[1:], api.ErrFrame},
		{"\xc2" + abc, api.ErrFrame},
		{"\xc2\xa7" + abc[1:], api.ErrFrame},
		{"x" + abc, api.ErrFrame},
		{abc[1:], api.ErrFrame},
		{"\xa7\x00", api.ErrFrame},
		{"\xa7\x00\x00\x00\x00\x01", api.ErrFrame},
		{"\xa7\xf1\x00", api.ErrFrame},
		{"\xa7\xf1\x00" + long, api.ErrFrame},
		{"\xa7\xf7\xe1", api.ErrFrame},
		{"\xa7\xf7\xe1" + long, api.ErrFrame},
		{"\xa7\xf8\x00", api.ErrFrame},
		{"\xa7\xf9\x00\x00", api.ErrFrame},
		{"\xa7\xfa\x00\x00\x03", api.ErrFrame},
		{"\xa7\xfb\x01\x00\x00\x03" + long, api.ErrFrame},
		{"\xa7\xff\x00\x00\x00\x00\x00\x00\x00\x03", api.ErrFrame},
		{"\xa7\xff\x00\x00\x00\x01\x00\x00\x00\x03" + long, api.ErrFrame},
		{"\xa7\xff\x80\x00\x00\x00\x00\x00\x00\x01" + long, api.ErrFrame},
		{"\xa7\xff\xff\xff\xff\xff\xff\xff\xff\xff" + long, api.ErrFrame},

		{"\xa7\x01x\x00\x79\x00\x78", api.ErrCheck},
		{"\xa7\x01x\x79\x00\x79\x00", api.ErrCheck},
		{"\xa7\x01x\x01\x79\x00\x79", api.ErrCheck},
		{"\xa7\x03acb\x02\x4d\x01\x27", api.ErrCheck},
		{"\xa7\x01\xff\x01\x00\x01\x01", api.ErrCheck},
		{"\xa7\xf7\xe0" + long, api.ErrCheck},
		{"\xa7\x02" + abc[2:] + abc, api.ErrCheck},
	} {
		refused(t, c.s, c.want)
	}
}

// P3.2: a second byte that is each one, with nothing and with much behind it.
func TestReadOfEachSize(t *testing.T) {
	long := strings.Repeat("\x01", 3000)
	for size := range 256 {
		s := "\xa7" + string([]byte{byte(size)})
		more, wrong := api.ErrMore, api.ErrCheck
		if size == 0 {
			more = api.ErrFrame
		}
		if size == 0 || size > 247 {
			wrong = api.ErrFrame
		}
		refused(t, s, more)
		refused(t, s+long, wrong)
	}
}

// P3.2: frames in a row, up to what is none.
func TestAll(t *testing.T) {
	x := made(t, "x")
	long := made(t, strings.Repeat("y", 2000))
	for _, c := range []struct {
		s    string
		want []string
		rest string
		e    api.Errno
	}{
		{"", nil, "", api.ErrMore},
		{x, []string{"x"}, "", api.ErrMore},
		{x + abc, []string{"x", "abc"}, "", api.ErrMore},
		{x + x + x, []string{"x", "x", "x"}, "", api.ErrMore},
		{long + x + long, []string{strings.Repeat("y", 2000), "x", strings.Repeat("y", 2000)}, "", api.ErrMore},
		{x + abc[:8], []string{"x"}, abc[:8], api.ErrMore},
		{x + "\xa7", []string{"x"}, "\xa7", api.ErrMore},
		{abc + "x" + x, []string{"abc"}, "x" + x, api.ErrFrame},
		{abc + "\xa7\x00" + x, []string{"abc"}, "\xa7\x00" + x, api.ErrFrame},
		{abc + abc + abc[:8] + "x" + x, []string{"abc", "abc"}, abc[:8] + "x" + x, api.ErrCheck},
		{"x" + abc, nil, "x" + abc, api.ErrFrame},
	} {
		if l, rest, e := frame.All(c.s); !slices.Equal(l, c.want) || rest != c.rest || e != c.e {
			t.Errorf("%x: %x, %x, %d", c.s, l, rest, e)
		}
	}
}

// P3.2, R5: many frames, none of them dear.
func TestAllOfMany(t *testing.T) {
	n := 100000
	l, rest, e := frame.All(strings.Repeat(abc, n) + "\xa7")
	if len(l) != n || rest != "\xa7" || e != api.ErrMore {
		t.Errorf("%d frames, %x, %d", len(l), rest, e)
	}
	if i := slices.IndexFunc(l, func(s string) bool { return s != "abc" }); i >= 0 {
		t.Errorf("frame %d: %x", i, l[i])
	}
}

// P3.3: however a stream is cut, the same frames are found, with the same end.
func TestCuts(t *testing.T) {
	x, long := made(t, "x"), made(t, strings.Repeat("y", 300))
	for _, s := range []string{
		abc + x + long + abc,
		abc + made(t, abc) + x,
		abc + long + "x" + abc,
		x + abc + "\xa7\xf1\x00" + abc,
		x + abc[:8] + "\x00" + x,
		x + "\xa7\xf7\xe0" + x,
	} {
		want, left, wrong := frame.All(s)
		for size := 1; size <= len(s); size++ {
			var got []string
			var rest string
			var e api.Errno
			for piece := range slices.Chunk([]byte(s), size) {
				var l []string
				l, rest, e = frame.All(rest + string(piece))
				got = append(got, l...)
			}
			if !slices.Equal(got, want) || rest != left || e != wrong {
				t.Errorf("%x, %d at once: %x, %x, %d", s, size, got, rest, e)
			}
		}
	}
}

// P3.3: of a frame that is cut short nothing is read, as long as bytes are missing.
func TestBeginnings(t *testing.T) {
	for _, body := range bodies() {
		f := made(t, body)
		for i := range len(f) {
			refused(t, f[:i], api.ErrMore)
		}
	}
}

// P3.3: one byte that is another one is found, at each place, be it each other one.
func TestOtherBytes(t *testing.T) {
	for _, body := range []string{"x", "\x00", "abc", "\xff\xff\xff", strings.Repeat("\x00", 9), strings.Repeat("z", 240), strings.Repeat("\xff", 241)} {
		f := made(t, body)
		for i := range len(f) {
			for b := range 256 {
				s := f[:i] + string([]byte{byte(b)}) + f[i+1:]
				if s == f {
					continue
				}
				got, rest, e := frame.Read(s)
				if got != "" || rest != s || e == api.OK {
					t.Errorf("%x: %x, %x, %d", s, got, rest, e)
				}
				if body := i >= len(f)-4-len(body); body && e != api.ErrCheck {
					t.Errorf("%x: %d", s, e)
				}
			}
		}
	}
}

// P3.2: a frame within a frame's bytes is none of the stream's, until its size says so.
func TestFrameWithin(t *testing.T) {
	f := made(t, abc[2:]+"xyz")
	if l, rest, e := frame.All(f); !slices.Equal(l, []string{abc[2:] + "xyz"}) || rest != "" || e != api.ErrMore {
		t.Errorf("%x, %x, %d", l, rest, e)
	}
	s := "\xa7\x03" + f[2:]
	if b, rest, e := frame.Read(s); b != "abc" || rest != f[9:] || e != api.OK {
		t.Errorf("%x, %x, %d", b, rest, e)
	}
}

// P3.1: frames of each byte, up to 299 times, held against those that are put together here.
func TestMakeOfMany(t *testing.T) {
	for a := range 256 {
		for n := range 300 {
			size := field.Put(uint64(n))
			body := strings.Repeat(string([]byte{byte(a)}), n)
			check := adler32.Checksum([]byte(body))
			s := "\xa7" + size + body + string([]byte{byte(check >> 24), byte(check >> 16), byte(check >> 8), byte(check)})
			f, e := frame.Make(body)
			if n > 0 && (f != s || e != api.OK) || n == 0 && (f != "" || e != api.ErrFrame) {
				t.Errorf("%d times %x: %x, %d", n, a, f, e)
			}
		}
	}
}

// R3, R4: a list that is handed out is the caller's, and what a call answers hangs on what it is handed alone.
func TestOnesOwn(t *testing.T) {
	s := abc + made(t, "x") + abc
	first, _, _ := frame.All(s)
	for i := range first[:cap(first)] {
		first[:cap(first)][i] = "y"
	}
	frame.Read("\xa7\xf1")
	frame.All(abc[:8] + "x")
	if again, rest, e := frame.All(s); !slices.Equal(again, []string{"abc", "x", "abc"}) || rest != "" || e != api.ErrMore {
		t.Errorf("%x, %x, %d", again, rest, e)
	}
}
