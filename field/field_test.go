package field_test

import (
	"fmt"
	"slices"
	"strings"
	"testing"

	"aviary/api"
	"aviary/field"
)

// spelled are numbers at the edges of each size, and their bytes, written out by hand.
var spelled = []struct {
	n uint64
	s string
}{
	{0, "\x00"},
	{1, "\x01"},
	{239, "\xef"},
	{240, "\xf0"},
	{241, "\xf1\x01"},
	{495, "\xf1\xff"},
	{496, "\xf2\x00"},
	{1000, "\xf3\xf8"},
	{2031, "\xf7\xff"},
	{2032, "\xf8\x00"},
	{2287, "\xf8\xff"},
	{2288, "\xf9\x00\x00"},
	{2543, "\xf9\x00\xff"},
	{2544, "\xf9\x01\x00"},
	{67823, "\xf9\xff\xff"},
	{67824, "\xfa\x01\x08\xf0"},
	{1<<24 - 1, "\xfa\xff\xff\xff"},
	{1 << 24, "\xfb\x01\x00\x00\x00"},
	{1<<32 - 1, "\xfb\xff\xff\xff\xff"},
	{1 << 32, "\xfc\x01\x00\x00\x00\x00"},
	{1<<40 - 1, "\xfc\xff\xff\xff\xff\xff"},
	{1 << 40, "\xfd\x01\x00\x00\x00\x00\x00"},
	{1<<48 - 1, "\xfd\xff\xff\xff\xff\xff\xff"},
	{1 << 48, "\xfe\x01\x00\x00\x00\x00\x00\x00"},
	{1<<56 - 1, "\xfe\xff\xff\xff\xff\xff\xff\xff"},
	{1 << 56, "\xff\x01\x00\x00\x00\x00\x00\x00\x00"},
	{0x0123456789abcdef, "\xff\x01\x23\x45\x67\x89\xab\xcd\xef"},
	{1 << 63, "\xff\x80\x00\x00\x00\x00\x00\x00\x00"},
	{1<<64 - 1, "\xff\xff\xff\xff\xff\xff\xff\xff\xff"},
}

// behinds are what may stand behind a number, a text, a list.
func behinds() []string {
	return []string{"", "\x00", "\xff", "\xf1\x00", "x", strings.Repeat("\xff", 20)}
}

// refused tells what is wrong, if s's beginning is not refused with that error, and s with it.
func refused(t *testing.T, s string, want api.Errno, zero bool, rest string, e api.Errno) {
	t.Helper()
	if e != want || rest != s || !zero {
		t.Errorf("%x: error %d, not %d; zero %v; behind it %x", s, e, want, zero, rest)
	}
}

// P2.1: the chapter's examples, and the edges of all sizes.
func TestPut(t *testing.T) {
	for _, c := range spelled {
		if s := field.Put(c.n); s != c.s {
			t.Errorf("%d: %x, not %x", c.n, s, c.s)
		}
	}
}

// P2.1: numbers, whatever stands behind their bytes.
func TestGet(t *testing.T) {
	for _, c := range spelled {
		for _, behind := range behinds() {
			n, rest, e := field.Get(c.s + behind)
			if n != c.n || rest != behind || e != api.OK {
				t.Errorf("%x %x: %d, %x, %d", c.s, behind, n, rest, e)
			}
		}
	}
}

// P2.1: numbers of which bytes are missing, from none on.
func TestGetMore(t *testing.T) {
	for _, c := range spelled {
		for i := range len(c.s) {
			s := c.s[:i]
			n, rest, e := field.Get(s)
			refused(t, s, api.ErrMore, n == 0, rest, e)
		}
	}
}

// P2.1: each first byte asks for its bytes, be they right or not.
func TestGetMoreOfEachFirstByte(t *testing.T) {
	for first := 241; first < 256; first++ {
		behind := max(1, first-247)
		for i := range behind {
			for _, fill := range []string{"\x00", "\xff"} {
				s := string([]byte{byte(first)}) + strings.Repeat(fill, i)
				n, rest, e := field.Get(s)
				refused(t, s, api.ErrMore, n == 0, rest, e)
			}
		}
	}
}

// P2.1: numbers that have fewer bytes.
func TestGetLonger(t *testing.T) {
	for _, s := range []string{
		"\xf1\x00",
		"\xfa\x00\x00\x00",
		"\xfa\x00\x00\xf0",
		"\xfa\x00\x08\xf0",
		"\xfa\x01\x08\xef",
		"\xfb\x00\x00\x00\x00",
		"\xfb\x00\x01\x08\xf0",
		"\xfb\x00\xff\xff\xff",
		"\xfc\x00\xff\xff\xff\xff",
		"\xfd\x00\xff\xff\xff\xff\xff",
		"\xfe\x00\xff\xff\xff\xff\xff\xff",
		"\xff\x00\x00\x00\x00\x00\x00\x00\x00",
		"\xff\x00\xff\xff\xff\xff\xff\xff\xff",
	} {
		for _, behind := range behinds() {
			n, rest, e := field.Get(s + behind)
			refused(t, s+behind, api.ErrField, n == 0, rest, e)
		}
	}
}

// P2.1: texts, held against each other by their bytes.
func TestLeast(t *testing.T) {
	rising := []string{"", "\x00", "\x00\x00", "A", "a", "a\x00", "ab", "abc", "a\xff", "b", "z", "\x7f", "\x80", "é", "\xff", "\xff\x00", "\xff\xff"}
	for i, a := range rising {
		for j, b := range rising {
			want := 0
			if i < j {
				want = -1
			} else if i > j {
				want = 1
			}
			if got := field.Least(a, b); got != want {
				t.Errorf("%q, %q: %d, not %d", a, b, got, want)
			}
		}
	}
	if n := field.Least(strings.Repeat("x", 1000), "x"); n != 1 {
		t.Error("a text ahead of one that it begins with:", n)
	}
}

// texts are texts of all lengths at which their bytes change, and the bytes of their lengths.
func texts() map[string]string {
	return map[string]string{
		"":                          "\x00",
		"\x00":                      "\x01",
		"ab":                        "\x02",
		"\xff\xfe\xf1":              "\x03",
		"é∈":                        "\x05",
		strings.Repeat("x", 240):    "\xf0",
		strings.Repeat("x", 241):    "\xf1\x01",
		strings.Repeat("x", 399):    "\xf1\x9f",
		strings.Repeat("é", 200):    "\xf1\xa0",
		strings.Repeat("\x00", 400): "\xf1\xa0",
	}
}

// P2.2: texts, up to the longest ones.
func TestText(t *testing.T) {
	for s, size := range texts() {
		b, e := field.PutText(s)
		if b != size+s || e != api.OK {
			t.Errorf("%q: %x, %d", s, b, e)
		}
		for _, behind := range behinds() {
			got, rest, e := field.GetText(size + s + behind)
			if got != s || rest != behind || e != api.OK {
				t.Errorf("%q, ahead of %x: %q, %x, %d", s, behind, got, rest, e)
			}
		}
	}
}

// P2.2: texts that are too long.
func TestPutTextTooLong(t *testing.T) {
	for _, n := range []int{401, 402, 2287, 100000} {
		if b, e := field.PutText(strings.Repeat("x", n)); b != "" || e != api.ErrField {
			t.Errorf("%d bytes: %x, %d", n, b, e)
		}
	}
	if b, e := field.PutText(strings.Repeat("é", 201)); b != "" || e != api.ErrField {
		t.Errorf("401 runes' bytes: %x, %d", b, e)
	}
}

// P2.2: bytes that begin with no text's. Of several errors the one that the bytes tell first is answered.
func TestGetTextWrong(t *testing.T) {
	long := strings.Repeat("x", 500)
	for _, c := range []struct {
		s    string
		want api.Errno
	}{
		{"", api.ErrMore},
		{"\xf1", api.ErrMore},
		{"\xf9\x01", api.ErrMore},
		{"\xff" + strings.Repeat("\xff", 7), api.ErrMore},
		{"\x01", api.ErrMore},
		{"\x02a", api.ErrMore},
		{"\xf1\xa0", api.ErrMore},
		{"\xf1\xa0" + long[:399], api.ErrMore},
		{"\xf1\x00" + long, api.ErrField},
		{"\xfa\x00\x00\x01a", api.ErrField},
		{"\xf1\xa1", api.ErrField},
		{"\xf1\xa1" + long[:401], api.ErrField},
		{"\xf9\x00\x00", api.ErrField},
		{"\xfb\x01\x00\x00\x00", api.ErrField},
		{"\xff\x80\x00\x00\x00\x00\x00\x00\x00", api.ErrField},
		{"\xff\x80\x00\x00\x00\x00\x00\x00\x01a", api.ErrField},
		{"\xff" + strings.Repeat("\xff", 8) + long, api.ErrField},
	} {
		text, rest, e := field.GetText(c.s)
		refused(t, c.s, c.want, text == "", rest, e)
	}
}

// lists are lists, and their bytes.
func lists() []struct {
	l []string
	s string
} {
	long := strings.Repeat("x", 400)
	return []struct {
		l []string
		s string
	}{
		{nil, "\x00"},
		{[]string{}, "\x00"},
		{[]string{""}, "\x01\x00"},
		{[]string{"ab"}, "\x01\x02ab"},
		{[]string{"", "\x00", ""}, "\x03\x00\x01\x00\x00"},
		{[]string{"b", "a", "b"}, "\x03\x01b\x01a\x01b"},
		{[]string{long, "y"}, "\x02\xf1\xa0" + long + "\x01y"},
		{make([]string, 100), "\x64" + strings.Repeat("\x00", 100)},
		{slices.Repeat([]string{long}, 100), "\x64" + strings.Repeat("\xf1\xa0"+long, 100)},
	}
}

// P2.2: lists, up to the longest ones.
func TestList(t *testing.T) {
	for _, c := range lists() {
		s, e := field.PutList(c.l)
		if s != c.s || e != api.OK {
			t.Errorf("%q: %x, %d", c.l, s, e)
		}
		for _, behind := range behinds() {
			l, rest, e := field.GetList(c.s + behind)
			if !slices.Equal(l, c.l) || rest != behind || e != api.OK {
				t.Errorf("%q, ahead of %x: %q, %x, %d", c.l, behind, l, rest, e)
			}
		}
	}
}

// P2.2: lists that are too long, and those of texts that are.
func TestPutListWrong(t *testing.T) {
	long := strings.Repeat("x", 401)
	for _, l := range [][]string{
		make([]string, 101),
		make([]string, 100000),
		{long},
		{long, "a"},
		{"a", "b", long},
		append(make([]string, 99), long),
		append(make([]string, 100), long),
	} {
		if s, e := field.PutList(l); s != "" || e != api.ErrField {
			t.Errorf("%d texts: %x, %d", len(l), s, e)
		}
	}
}

// P2.2: bytes that begin with no list's. Of several errors the one that the bytes tell first is answered.
func TestGetListWrong(t *testing.T) {
	long := strings.Repeat("x", 500)
	for _, c := range []struct {
		s    string
		want api.Errno
	}{
		{"", api.ErrMore},
		{"\xf8", api.ErrMore},
		{"\x01", api.ErrMore},
		{"\x02\x01a", api.ErrMore},
		{"\x02\x01a\xf1", api.ErrMore},
		{"\x02\x01a\x03bc", api.ErrMore},
		{"\x64" + strings.Repeat("\x00", 99), api.ErrMore},
		{"\x02\x03ab", api.ErrMore},
		{"\x02\x05ab\xf1\x00", api.ErrMore},
		{"\x65", api.ErrField},
		{"\x65" + strings.Repeat("\x00", 101), api.ErrField},
		{"\xf0", api.ErrField},
		{"\xf1\x00", api.ErrField},
		{"\xff\x80\x00\x00\x00\x00\x00\x00\x00", api.ErrField},
		{"\xff\x80\x00\x00\x00\x00\x00\x00\x01\x00", api.ErrField},
		{"\x01\xf1\x00", api.ErrField},
		{"\x01\xf1\xa1", api.ErrField},
		{"\x01\xf1\xa1" + long, api.ErrField},
		{"\x03\x01a\xf1\xa1", api.ErrField},
		{"\x03\x01a\xfb\x00\x00\x00\x01b", api.ErrField},
		{"\x03\x01a\xf1\xa1" + long[:401] + "\x05", api.ErrField},
	} {
		l, rest, e := field.GetList(c.s)
		refused(t, c.s, c.want, len(l) == 0, rest, e)
	}
}

// P2.2 and R3: a list that is handed in stays as it is, with its spare room; one that is handed out is the caller's.
func TestListsAreOnesOwn(t *testing.T) {
	room := []string{"a", "b", "spare"}
	s, _ := field.PutList(room[:2])
	if !slices.Equal(room, []string{"a", "b", "spare"}) {
		t.Error("handed in:", room)
	}
	room[0] = "x"
	first, _, _ := field.GetList(s)
	second, _, _ := field.GetList(s)
	first[0] = "x"
	for i := range first[:cap(first)] {
		first[:cap(first)][i] = "x"
	}
	if !slices.Equal(second, []string{"a", "b"}) {
		t.Error("handed out:", second)
	}
}

// P2.3: numbers and their bytes are one to one, and bytes in the numbers' order.
func TestNumbersInOrder(t *testing.T) {
	l := make([]uint64, 0, 80000)
	for n := range uint64(70000) {
		l = append(l, n)
	}
	for i := 17; i < 64; i++ {
		for d := range uint64(5) {
			l = append(l, 1<<i-2+d, 1<<i+1<<(i-1)+d)
		}
	}
	l = append(l, 1<<64-2, 1<<64-1)
	slices.Sort(l)
	before := ""
	for _, n := range slices.Compact(l) {
		s := field.Put(n)
		if field.Least(before, s) != -1 || field.Least(s, before) != 1 {
			t.Errorf("%d: %x is not behind %x", n, s, before)
		}
		for _, behind := range behinds() {
			if m, rest, e := field.Get(s + behind); m != n || rest != behind || e != api.OK {
				t.Errorf("%d, ahead of %x: %d, %x, %d", n, behind, m, rest, e)
			}
		}
		before = s
	}
}

// heads are all beginnings of two bytes, with some bytes behind them.
func heads(visit func(s string)) {
	for a := range 256 {
		for b := range 256 {
			for _, behind := range []string{"", "\x00", "\x08\xf0", "\x00\x00\x00\x00\x00\x00\x00", "\xff\xff\xff\xff\xff\xff\xff\xff\xff"} {
				visit(string([]byte{byte(a), byte(b)}) + behind)
			}
		}
	}
}

// P2.3: bytes that are a number's, a text's, a list's are those that it is put as; all others are refused.
func TestBytesAreOneToOne(t *testing.T) {
	same := func(what, s, put, rest string, e, f api.Errno) {
		if e == api.OK && (f != api.OK || put+rest != s) {
			t.Errorf("%s of %x: put as %x, with %x behind it", what, s, put, rest)
		}
		if e != api.OK && rest != s {
			t.Errorf("%s of %x is refused, with %x behind it", what, s, rest)
		}
	}
	heads(func(s string) {
		n, rest, e := field.Get(s)
		same("number", s, field.Put(n), rest, e, api.OK)
		text, rest, e := field.GetText(s)
		put, f := field.PutText(text)
		same("text", s, put, rest, e, f)
		l, rest, e := field.GetList(s)
		put, f = field.PutList(l)
		same("list", s, put, rest, e, f)
	})
}

// P2.3: no list has another one's bytes, nor begins with them.
func TestListsTellApart(t *testing.T) {
	all := [][]string{nil}
	for _, a := range []string{"", "a", "ab", "\x00", "\x01a"} {
		all = append(all, []string{a})
		for _, b := range []string{"", "a", "b", "\x00"} {
			all = append(all, []string{a, b}, []string{a, b, a}, []string{a + b, ""})
		}
	}
	seen := map[string]string{}
	for _, l := range all {
		s, e := field.PutList(l)
		if e != api.OK {
			t.Errorf("%q: %d", l, e)
		}
		what := fmt.Sprintf("%q", l)
		if other, ok := seen[s]; ok && other != what {
			t.Errorf("%s and %s are both %x", what, other, s)
		}
		seen[s] = what
	}
	for a := range seen {
		for b := range seen {
			if a != b && strings.HasPrefix(a, b) {
				t.Errorf("%x begins with %x", a, b)
			}
		}
	}
}

// P2.1, P2.2 and R4: what a call answers hangs on what it is handed alone, behind a refusal too.
func TestAgain(t *testing.T) {
	first, _ := field.PutList([]string{"a", ""})
	field.GetList("\x05\x01")
	field.GetText("\xf1\x00")
	field.Get("")
	if again, e := field.PutList([]string{"a", ""}); again != first || e != api.OK {
		t.Errorf("%x, then %x", first, again)
	}
	if l, rest, e := field.GetList(first); !slices.Equal(l, []string{"a", ""}) || rest != "" || e != api.OK {
		t.Error(l, rest, e)
	}
}
