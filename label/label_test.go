package label_test

import (
	"regexp"
	"slices"
	"strings"
	"testing"
	"unicode/utf8"

	"aviary/api"
	"aviary/label"
)

// of are labels, of names and values by turns.
func of(parts ...string) []api.Label {
	var l []api.Label
	for pair := range slices.Chunk(parts, 2) {
		l = append(l, api.Label{Name: pair[0], Value: pair[1]})
	}
	return l
}

// wrongs are bytes that are no UTF-8.
func wrongs() []string {
	return []string{
		"\x80", "\xbf", "\xc2", "\xe2\x82", "\xf0\x9f\x98", "\xfe", "\xff",
		"\xc0\x80", "\xc1\xbf", "\xe0\x80\x80", "\xe0\x9f\xbf", "\xf0\x80\x80\x80", "\xf0\x8f\xbf\xbf",
		"\xed\xa0\x80", "\xed\xbf\xbf", "\xed\xa0\xbd\xed\xb8\x80",
		"\xf4\x90\x80\x80", "\xf5\x80\x80\x80", "\xf8\x88\x80\x80\x80",
		"\xef\xbf", "\xef\xbf\xbd\xff", "\xff\xef\xbf\xbd", "\xc3(", "é\xa9",
	}
}

// named are values that are right, and their forms in a set's text.
var named = []struct{ value, form string }{
	{"", ""},
	{"x", "x"},
	{" ", " "},
	{"~", "~"},
	{"=", "="},
	{"a=b", "a=b"},
	{",", `\,`},
	{`\`, `\\`},
	{`\,`, `\\\,`},
	{`,\`, `\,\\`},
	{`x\`, `x\\`},
	{`\\\`, `\\\\\\`},
	{"b,a=c", `b\,a=c`},
	{"é€😀", "é€😀"},
	{"\u0080\u009f\u00a0", "\u0080\u009f\u00a0"},
	{"\ufffd", "\ufffd"},
	{"\ufeff\uffff\U0010ffff", "\ufeff\uffff\U0010ffff"},
	{strings.Repeat("x", 24), strings.Repeat("x", 24)},
	{strings.Repeat("😀", 24), strings.Repeat("😀", 24)},
	{strings.Repeat(",", 24), strings.Repeat(`\,`, 24)},
	{strings.Repeat(`\`, 24), strings.Repeat(`\\`, 24)},
}

// notValues are texts that no label has.
func notValues() []string {
	l := []string{"\x7f", "a\x7f", strings.Repeat("x", 25), strings.Repeat("😀", 25), strings.Repeat(",", 25), strings.Repeat("x", 10000), strings.Repeat("x", 24) + "\x00"}
	for c := range rune(0x20) {
		l = append(l, string(c), "a"+string(c)+"b")
	}
	for _, s := range wrongs() {
		l = append(l, s, "a"+s, s+"a")
	}
	return l
}

// notNames are texts that no label is named by.
func notNames() []string {
	return []string{"", "A", "Z", "aB", "`", "{", "a1", "a b", "_", "-", "é", "ａ", "ſ", "\x00", "\x7f", "\xff", "a\xff", "abcdefghijklm", strings.Repeat("z", 10000)}
}

// notSets are lists of right labels that are no sets.
func notSets() [][]api.Label {
	return [][]api.Label{
		nil,
		{},
		of("b", "1", "a", "2"),
		of("a", "1", "a", "1"),
		of("a", "1", "a", "2"),
		of("a", "", "b", "", "b", "1"),
		of("a", "", "c", "", "b", ""),
		of("ab", "", "a", ""),
		of("b", "", "aa", ""),
		of("a", "", "b", "", "c", "", "d", "", "e", "", "f", "", "g", ""),
		slices.Repeat(of("a", ""), 100000),
	}
}

// sets are sets, and their texts.
func sets() map[string][]api.Label {
	m := map[string][]api.Label{
		`a=1,b=2`:                      of("a", "1", "b", "2"),
		`a=é\,,b=xy`:                   of("a", "é,", "b", "xy"),
		`a=,aa=,ab=,b=`:                of("a", "", "aa", "", "ab", "", "b", ""),
		`a=\,b=1,c=\\`:                 of("a", ",b=1", "c", `\`),
		`a=1,b=1,c=1,d=1,e=1,f=1`:      of("a", "1", "b", "1", "c", "1", "d", "1", "e", "1", "f", "1"),
		`abcdefghijkl=1,nopqrstuvwxy=`: of("abcdefghijkl", "1", "nopqrstuvwxy", ""),
		`z=1`:                          of("z", "1"),
	}
	for _, v := range named {
		m["a="+v.form] = of("a", v.value)
		m["az="+v.form+",za="+v.form] = of("az", v.value, "za", v.value)
	}
	return m
}

// told tells what is wrong, if s does not tell that set.
func told(t *testing.T, s string, want []api.Label) {
	t.Helper()
	if l, e := label.Parse(s); !slices.Equal(l, want) || e != api.OK {
		t.Errorf("%q: %q, %d, not %q", s, l, e, want)
	}
}

// refused tells what is wrong, if s tells a set.
func refused(t *testing.T, s string) {
	t.Helper()
	if l, e := label.Parse(s); len(l) != 0 || e != api.ErrLabel {
		t.Errorf("%.900q: %q, %d", s, l, e)
	}
}

// P4.1: runes of one to four bytes, those that mean nothing, and the one by which Go tells of wrong bytes.
func TestRunes(t *testing.T) {
	for s, want := range map[string]int{
		"": 0, "\x00": 1, "a": 1, "\x7f": 1, "\n\t ": 3, "\u0080": 1, "é": 1, "߿": 1, "ࠀ": 1, "€": 1, "aé€😀": 4,
		"\ufffd": 1, "\ufffd\ufffda\ufffd": 4, "\ufffe\uffff": 2, "\ud7ff\ue000": 2, "\U00010000\U0010ffff": 2, "e\u0301": 2,
		strings.Repeat("€", 100000): 100000,
	} {
		if n, ok := label.Runes(s); n != want || !ok {
			t.Errorf("%.30q: %d, %v", s, n, ok)
		}
	}
}

// P4.1: wrong texts, wherever the wrong bytes stand.
func TestRunesOfWrongTexts(t *testing.T) {
	for _, s := range wrongs() {
		for _, ahead := range []string{"", "a", "€", "\ufffd"} {
			for _, behind := range []string{"", "a", "€", "\ufffd"} {
				if n, ok := label.Runes(ahead + s + behind); n != 0 || ok {
					t.Errorf("%x: %d, %v", ahead+s+behind, n, ok)
				}
			}
		}
	}
}

// P4.1: all texts of some bytes, held against the library.
func TestRunesOfAllTexts(t *testing.T) {
	edges := "\x00a\x7f\x80\x8f\x90\x9f\xa0\xbd\xbf\xc0\xc1\xc2\xdf\xe0\xe1\xed\xee\xef\xf0\xf1\xf4\xf5\xff"
	var visit func(s string)
	visit = func(s string) {
		n, ok := label.Runes(s)
		right := utf8.ValidString(s)
		if ok != right || right && n != utf8.RuneCountInString(s) || !right && n != 0 {
			t.Errorf("%x: %d, %v", s, n, ok)
		}
		for i := range len(edges) {
			if len(s) < 4 {
				visit(s + edges[i:i+1])
			}
		}
	}
	visit("")
}

// P4.1: sets, and their texts.
func TestText(t *testing.T) {
	for want, l := range sets() {
		if !label.Right(l) {
			t.Errorf("%q is no set", l)
		}
		if s, e := label.Text(l); s != want || e != api.OK {
			t.Errorf("%q: %q, %d, not %q", l, s, e, want)
		}
	}
}

// P4.1: lists that are no sets, for their number, their order, a name, a value, at each place.
func TestTextOfNoSet(t *testing.T) {
	wrong := notSets()
	for _, name := range notNames() {
		wrong = append(wrong, of(name, ""), of(name, "", "zzzzzzzzzzzz", ""), of("a", "", name, ""))
	}
	for _, value := range notValues() {
		wrong = append(wrong, of("a", value), of("a", value, "b", ""), of("a", "", "b", "", "c", value))
	}
	for _, l := range wrong {
		if label.Right(l) {
			t.Errorf("%.900q is a set", l)
		}
		if s, e := label.Text(l); s != "" || e != api.ErrLabel {
			t.Errorf("%.900q: %q, %d", l, s, e)
		}
	}
}

// P4.1: values of names that are there, or are not, in lists that need be no sets.
func TestGet(t *testing.T) {
	for _, c := range []struct {
		l     []api.Label
		name  string
		value string
		ok    bool
	}{
		{nil, "", "", false},
		{nil, "a", "", false},
		{of("a", "x", "b", "y"), "a", "x", true},
		{of("a", "x", "b", "y"), "b", "y", true},
		{of("a", "x", "b", "y"), "c", "", false},
		{of("a", "x", "b", "y"), "", "", false},
		{of("a", "x", "b", "y"), "x", "", false},
		{of("a", "x", "ab", "y"), "ab", "y", true},
		{of("ab", "x"), "a", "", false},
		{of("a", ""), "a", "", true},
		{of("b", "1", "a", "2", "b", "3", "a", "4"), "a", "2", true},
		{of("b", "1", "a", "2", "b", "3", "a", "4"), "b", "1", true},
		{of("a", "", "a", "1"), "a", "", true},
		{of("", "none", "\xff", "\x00"), "", "none", true},
		{of("", "none", "\xff", "\x00"), "\xff", "\x00", true},
		{append(slices.Repeat(of("a", "1"), 1000), of("b", "2")...), "b", "2", true},
	} {
		if v, ok := label.Get(c.l, c.name); v != c.value || ok != c.ok {
			t.Errorf("%q of %.99q: %q, %v", c.name, c.l, v, ok)
		}
	}
}

// P4.1: lists in their order: names weigh more than values, labels ahead more than those behind, both more than how many there are.
func TestLess(t *testing.T) {
	rising := [][]api.Label{
		nil,
		of("", ""),
		of("", "", "", ""),
		of("", "z"),
		of("A", "z"),
		of("a", ""),
		of("a", "", "a", ""),
		of("a", "", "z", ""),
		of("a", "\x00"),
		of("a", "x"),
		of("a", "x", "b", "y"),
		of("a", "x", "b", "y", "c", ""),
		of("a", "x", "b", "z"),
		of("a", "x", "c", "a"),
		of("a", "xx"),
		of("a", "y", "a", "a"),
		of("a", "z"),
		of("a", "é"),
		of("a", "\uffff"),
		of("a", "😀"),
		of("a", "\xff"),
		of("aa", ""),
		of("ab", "a"),
		of("b", "", "a", ""),
		of("b", "a"),
		of("é", "a"),
		of("\xff", "a"),
	}
	for i, a := range rising {
		for j, b := range rising {
			if got := label.Less(slices.Clone(a), b); got != (i < j) {
				t.Errorf("%q, %q: %v", a, b, got)
			}
		}
	}
	if label.Less(nil, []api.Label{}) || label.Less([]api.Label{}, nil) {
		t.Error("nil and empty lists are told apart")
	}
	long := slices.Repeat(of("a", "x"), 100000)
	if !label.Less(long[1:], long) || label.Less(long, long[1:]) || label.Less(long, long) {
		t.Error("long lists")
	}
}

// P4.2: the chapter's examples, sets' texts, labels in other orders, and quotes that need not be there.
func TestParse(t *testing.T) {
	for s, l := range sets() {
		told(t, s, l)
	}
	for s, l := range map[string][]api.Label{
		`b=x\y,a=é\,`:             of("a", "é,", "b", "xy"),
		`b=,a=`:                   of("a", "", "b", ""),
		`ab=1,b=2,a=3,aa=4`:       of("a", "3", "aa", "4", "ab", "1", "b", "2"),
		`f=1,e=2,d=3,c=4,b=5,a=6`: of("a", "6", "b", "5", "c", "4", "d", "3", "e", "2", "f", "1"),
		`a=\=\a\ \é\😀`:            of("a", "=a é😀"),
		"a=\\\ufffd":              of("a", "\ufffd"),
		`a==`:                     of("a", "="),
		`a==b=`:                   of("a", "=b="),
		`a=\\,b=1`:                of("a", `\`, "b", "1"),
		`a=\\\,b=1`:               of("a", `\,b=1`),
		`a=\\\\,b=\,`:             of("a", `\\`, "b", ","),
		`a= ,b=1;c `:              of("a", " ", "b", "1;c "),
	} {
		told(t, s, l)
	}
}

// P4.2: the longest text that tells a set, and those that are longer by as little as can be.
func TestParseOfLongest(t *testing.T) {
	value := strings.Repeat("😀", 24)
	form := strings.Repeat(`\😀`, 24)
	var l []api.Label
	var parts []string
	for _, end := range "abcdef" {
		name := "abcdefghijk" + string(end)
		l = append(l, api.Label{Name: name, Value: value})
		parts = append(parts, name+"="+form)
	}
	s := strings.Join(parts, ",")
	told(t, s, l)
	slices.Reverse(parts)
	told(t, strings.Join(parts, ","), l)
	for _, more := range []string{"x", `\x`, ",", ",g=", `\`, "\xff"} {
		refused(t, s+more)
	}
	refused(t, "a"+s)
	refused(t, s[:len(s)-len(`\😀`)]+"abx")
	told(t, s[:len(s)-len(`\😀`)]+"x", append(slices.Clone(l[:5]), api.Label{Name: l[5].Name, Value: strings.Repeat("😀", 23) + "x"}))
}

// P4.2: texts that tell no set: for want of a part, for a part too many, for a name, a value, an order that is none.
func TestParseOfNoSet(t *testing.T) {
	wrong := []string{
		"", ",", "=", `\`, "a", "a,", ",a", "ab", "=x", "=,", "=\\", "\\,", "a=1,", "a=1,,", "a=1,,b=2", ",a=1", "a=1,b", "a=1,=", "a=1,=2", "a=1,b=2,", "a,b=1", "a,=1",
		"a=1,a=1", "a=1,a=2", "b=1,a=1,b=2", "a=,b=,a=", "a=1,a=",
		"a=,b=,c=,d=,e=,f=,g=", "g=,f=,e=,d=,c=,b=,a=", strings.Repeat("a=,", 100000) + "a=",
		`\a=1`, `a\b=1`, `a\=1`, `a=1,\b=2`, `a\==1`,
		`a=\`, `a=1\`, `a=\\\`, `a=1,b=\`, `b=\,a=\`, "a=" + strings.Repeat("x", 24) + `\`,
		" a=1", "a =1", "a=1, b=2", "a:1", "a;b=1",
		"a=1,b=\n", "a=\\\n", "a=\\\x7f", "a=\\\x1f", "a=\\\xff", "a=\\\xc3", "\ufeffa=1",
		"a=" + strings.Repeat(`\x`, 25), "a=" + strings.Repeat("x", 100000), strings.Repeat("a", 100000), strings.Repeat(`\`, 100001),
	}
	for _, name := range notNames() {
		wrong = append(wrong, name+"=1", name+"=", "a=1,"+name+"=1", name+"=1,zzzzzzzzzzzz=1")
	}
	for _, value := range notValues() {
		wrong = append(wrong, "a="+value, "b=1,a="+value, "a="+value+",b=1")
	}
	for _, s := range wrongs() {
		wrong = append(wrong, s, s+"a=1", "a"+s+"=1", "a=1,"+s, "a=\\"+s)
	}
	for _, s := range wrong {
		refused(t, s)
	}
}

// A text that tells a set, as rules for texts say it, apart from names that are the same.
var (
	oneLabel = `([a-z]{1,12})=((?:[^,\\\x00-\x1f\x7f]|\\[^\x00-\x1f\x7f]){0,24})`
	oneForm  = regexp.MustCompile(oneLabel + "(?:,|$)")
	allForm  = regexp.MustCompile("^" + oneLabel + "(?:," + oneLabel + "){0,5}$")
	quoted   = regexp.MustCompile(`\\(.)`)
)

// ruled is the set that s tells by those rules.
func ruled(s string) ([]api.Label, bool) {
	if !utf8.ValidString(s) || !allForm.MatchString(s) {
		return nil, false
	}
	seen := map[string]bool{}
	var l []api.Label
	for _, m := range oneForm.FindAllStringSubmatch(s, -1) {
		if seen[m[1]] {
			return nil, false
		}
		seen[m[1]] = true
		l = append(l, api.Label{Name: m[1], Value: quoted.ReplaceAllString(m[2], "$1")})
	}
	slices.SortFunc(l, func(x, y api.Label) int { return strings.Compare(x.Name, y.Name) })
	return l, true
}

// texts are all texts of at most that many of these pieces.
func texts(most int, pieces []string, visit func(s string)) {
	var grow func(s string, left int)
	grow = func(s string, left int) {
		visit(s)
		if left == 0 {
			return
		}
		for _, p := range pieces {
			grow(s+p, left-1)
		}
	}
	grow("", most)
}

// P4.2, P4.3: all short texts, held against the rules; what is told is a set, whose text tells it again.
func TestParseOfAllTexts(t *testing.T) {
	visit := func(s string) {
		want, ok := ruled(s)
		l, e := label.Parse(s)
		if ok != (e == api.OK) || e != api.OK && e != api.ErrLabel || !slices.Equal(l, want) {
			t.Errorf("%q: %q, %d, not %q", s, l, e, want)
		}
		if e != api.OK {
			return
		}
		if !label.Right(l) {
			t.Errorf("%q: %q is no set", s, l)
		}
		text, f := label.Text(l)
		if f != api.OK {
			t.Errorf("%q: no text: %d", s, f)
		}
		told(t, text, l)
	}
	texts(6, []string{"a", "b", "=", ",", `\`, "é", "\x1f"}, visit)
	texts(6, []string{"a=", "b=", "ab=", ",", `\`, "\xff", "x"}, visit)
	texts(8, []string{"a=", ",b=", ",", `\`}, visit)
}

// P4.3: no two sets have one text, and each text tells its set.
func TestSetsTellApart(t *testing.T) {
	values := []string{"", "a", "b=", "=", ",", `\`, `\,`, `,\`, `\\`, ",,", ",b=", ",b=1", `\,b=`, "é"}
	var all [][]api.Label
	for _, v := range values {
		for _, name := range []string{"a", "b", "ab"} {
			all = append(all, of(name, v))
		}
		for _, w := range values {
			all = append(all, of("a", v, "b", w), of("a", v, "ab", w), of("a", v, "b", w, "c", v))
		}
	}
	seen := map[string][]api.Label{}
	for _, l := range all {
		s, e := label.Text(l)
		if other, ok := seen[s]; ok || e != api.OK {
			t.Errorf("%q and %q are both %q, %d", other, l, s, e)
		}
		seen[s] = l
		told(t, s, l)
	}
}

// P4.3: a set's labels in all orders tell that set.
func TestAllOrders(t *testing.T) {
	want := of("a", "1", "ab", ",", "b", "", "ba", `\`, "c", "=")
	forms := []string{"a=1", `ab=\,`, "b=", `ba=\\`, "c=="}
	var visit func(n int)
	visit = func(n int) {
		if n == len(forms) {
			told(t, strings.Join(forms, ","), want)
			return
		}
		for i := n; i < len(forms); i++ {
			forms[n], forms[i] = forms[i], forms[n]
			visit(n + 1)
			forms[n], forms[i] = forms[i], forms[n]
		}
	}
	visit(0)
}

// R3: lists that are handed in stay as they are, with their spare room; what is handed out is the caller's.
func TestOnesOwn(t *testing.T) {
	room := of("a", "1", "b", "2", "spare", "room")
	want := slices.Clone(room)
	label.Right(room[:2])
	label.Text(room[:2])
	label.Get(room[:2], "b")
	label.Less(room[:1], room[:2])
	label.Right(room[1:])
	unsorted := of("b", "2", "a", "1")
	label.Right(unsorted)
	label.Text(unsorted)
	if !slices.Equal(room, want) || !slices.Equal(unsorted, of("b", "2", "a", "1")) {
		t.Error("handed in:", room, unsorted)
	}
	first, _ := label.Parse("b=2,a=1")
	second, _ := label.Parse("b=2,a=1")
	for i := range first[:cap(first)] {
		first[:cap(first)][i] = api.Label{Name: "x"}
	}
	if third, _ := label.Parse("b=2,a=1"); !slices.Equal(second, want[:2]) || !slices.Equal(third, want[:2]) {
		t.Error("handed out:", second, third)
	}
}
