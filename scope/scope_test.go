package scope_test

import (
	"regexp"
	"slices"
	"strings"
	"testing"
	"unicode/utf8"

	"aviary/api"
	"aviary/label"
	"aviary/scope"
)

// of are labels, of names and values by turns.
func of(parts ...string) []api.Label {
	var l []api.Label
	for pair := range slices.Chunk(parts, 2) {
		l = append(l, api.Label{Name: pair[0], Value: pair[1]})
	}
	return l
}

// wrongs are bytes that are no UTF-8.
func wrongs() []string {
	return []string{
		"\x80", "\xbf", "\xc2", "\xe2\x82", "\xf0\x9f\x98", "\xfe", "\xff", "\xc0\x80", "\xe0\x80\x80",
		"\xed\xa0\x80", "\xf4\x90\x80\x80", "\xef\xbf", "\xef\xbf\xbd\xff", "\xff\xef\xbf\xbd", "\xc3(",
	}
}

// controls are the runes that no value has, nor a pattern.
func controls() []string {
	l := []string{"\x7f"}
	for c := range rune(0x20) {
		l = append(l, string(c))
	}
	return l
}

// texts are all texts of at most that many of these pieces.
func texts(most int, pieces ...string) []string {
	l := []string{""}
	for last := l; most > 0; most-- {
		var longer []string
		for _, s := range last {
			for _, p := range pieces {
				longer = append(longer, s+p)
			}
		}
		l = append(l, longer...)
		last = longer
	}
	return l
}

// notPatterns are texts that are no patterns.
func notPatterns() []string {
	l := []string{
		"~", "a~", "*~", "?~", ";~", "~~~", "~*~", "~~~~~", "a~~~",
		strings.Repeat("x", 25), strings.Repeat("*", 25), strings.Repeat("😀", 25), strings.Repeat("~x", 12) + "x", strings.Repeat("~~", 13), strings.Repeat("x", 23) + "~", strings.Repeat("x", 24) + "~",
		strings.Repeat("~", 25), strings.Repeat("x", 100000), strings.Repeat("*", 100000), strings.Repeat("~", 100000),
	}
	for _, s := range append(controls(), wrongs()...) {
		l = append(l, s, "a"+s, s+"a", "~"+s, "*"+s+"*")
	}
	return l
}

// P5.1: patterns, and which values they stand for.
var stands = []struct {
	p    string
	fits []string
	none []string
}{
	{"", []string{""}, []string{"a", " ", "*"}},
	{"a*é?", []string{"aéb", "axxéy", "aéé", "aééé", "aéa", "a*é?", "aé😀", "axéyéz"}, []string{"aé", "aéxy", "baéx", "ae\u0301x", "", "a", "é"}},
	{"~*", []string{"*"}, []string{"", "~*", "~", "x", "**"}},
	{"~?", []string{"?"}, []string{"", "x", "~?", "~"}},
	{"~~", []string{"~"}, []string{"", "~~", "x"}},
	{"~a~é~~~*", []string{"aé~*"}, []string{"aé~", "aé~x", "~a~é~~~*"}},
	{"~~*", []string{"~", "~x", "~*", "~~~"}, []string{"", "*", "x~"}},
	{"~;;", []string{";;"}, []string{";", "~;;"}},
	{"~=~,~\\=,\\", []string{"=,\\=,\\"}, []string{"=,\\"}},
	{"*", []string{"", "a", "*", "~", "\ufffd", " ", "é€😀", strings.Repeat("x", 24)}, nil},
	{"**", []string{"", "é", "ab"}, nil},
	{"*?", []string{"a", "ab", "é"}, []string{""}},
	{"?*", []string{"a", "ab", "é"}, []string{""}},
	{"*?*?*", []string{"ab", "abc", "éé"}, []string{"", "a", "é"}},
	{"?", []string{"€", "😀", "\ufffd", "?", "~", ";"}, []string{"", "ab", "e\u0301"}},
	{"??", []string{"ab", "e\u0301", "??"}, []string{"", "a", "€", "abc"}},
	{"*x*y*", []string{"axbyc", "xy", "xyxy", "yxy", "xxyy"}, []string{"yx", "x", "y", "", "yyxx"}},
	{"*ab", []string{"ab", "aab", "abab", "abaab"}, []string{"aba", "b", "abb"}},
	{"a*a", []string{"aa", "aaa", "aba"}, []string{"a", "ab", "ba", ""}},
	{"a*ab*b", []string{"aabb", "aaabb", "aababb", "aabab"}, []string{"ab", "aab", "abb"}},
	{"x", []string{"x"}, []string{"X", "", "xx", "xy", "yx"}},
	{"*\ufffd", []string{"\ufffd", "a\ufffd"}, []string{"", "\ufffda"}},
	{"[a-z]", []string{"[a-z]"}, []string{"a", "b"}},
	{"a.b", []string{"a.b"}, []string{"axb"}},
	{"A=B", []string{"A=B"}, []string{"a=b"}},
	{";", []string{";"}, []string{""}},
	{strings.Repeat("x", 24), []string{strings.Repeat("x", 24)}, []string{strings.Repeat("x", 23), strings.Repeat("x", 25)}},
	{strings.Repeat("😀", 24), []string{strings.Repeat("😀", 24)}, []string{strings.Repeat("😀", 23)}},
	{strings.Repeat("?", 24), []string{strings.Repeat("😀", 24)}, []string{strings.Repeat("x", 23), strings.Repeat("x", 25)}},
	{strings.Repeat("*", 24), []string{"", "a", strings.Repeat("x", 24)}, nil},
	{strings.Repeat("~*", 12), []string{strings.Repeat("*", 12)}, []string{strings.Repeat("*", 11), strings.Repeat("*", 13), strings.Repeat("x", 12)}},
	{strings.Repeat("x", 22) + "~~", []string{strings.Repeat("x", 22) + "~"}, []string{strings.Repeat("x", 22)}},
	{strings.Repeat("x", 23) + "*", []string{strings.Repeat("x", 23), strings.Repeat("x", 24)}, []string{strings.Repeat("x", 22)}},
}

func TestFits(t *testing.T) {
	for _, c := range stands {
		if !scope.IsPattern(c.p) {
			t.Errorf("%q is no pattern", c.p)
		}
		for _, v := range c.fits {
			if !scope.Fits(c.p, v) {
				t.Errorf("%q does not stand for %q", c.p, v)
			}
		}
		for _, v := range c.none {
			if scope.Fits(c.p, v) {
				t.Errorf("%q stands for %q", c.p, v)
			}
		}
	}
}

// P5.1: texts that are no patterns stand for nothing, not even for themselves.
func TestNotPatterns(t *testing.T) {
	for _, p := range notPatterns() {
		if scope.IsPattern(p) {
			t.Errorf("%.99q is a pattern", p)
		}
		for _, v := range []string{"", "a", "~", p, strings.TrimSuffix(p, "~"), strings.ReplaceAll(p, "~", "")} {
			if scope.Fits(p, v) {
				t.Errorf("%.99q stands for %.99q", p, v)
			}
		}
	}
}

// P5.1: wrong texts are stood for by nothing, wherever the wrong bytes stand.
func TestWrongTexts(t *testing.T) {
	for _, s := range wrongs() {
		for _, v := range []string{s, "a" + s, s + "a", "a" + s + "a", "\ufffd" + s} {
			for _, p := range []string{"*", "?", "??", "a*", "*a", "a*a", "\ufffd", "\ufffd*", v} {
				if scope.Fits(p, v) {
					t.Errorf("%q stands for %x", p, v)
				}
			}
			if q := scope.Quote(v); q != "" {
				t.Errorf("%x: %q", v, q)
			}
		}
	}
}

// P5.1: a value that is matched may be any right text, a label's or not.
func TestFitsTextsOfNoLabel(t *testing.T) {
	for _, c := range controls() {
		if !scope.Fits("*", c) || !scope.Fits("a?b", "a"+c+"b") || scope.Fits("x", c) {
			t.Errorf("%q", c)
		}
	}
	long := strings.Repeat("é", 1000)
	if !scope.Fits("*", long) || !scope.Fits("é*é", long) || scope.Fits("?", long) || scope.Fits(strings.Repeat("?", 24), long) {
		t.Error("long values")
	}
}

// P5.1: no value is dear, however many ways there are to match it, or to begin to.
func TestFitsOfManyWays(t *testing.T) {
	long := strings.Repeat("a", 50000)
	for p, want := range map[string]bool{
		strings.Repeat("*a", 12): true, strings.Repeat("a*", 12): true, strings.Repeat("*", 24): true,
		strings.Repeat("*a", 11) + "b": false, strings.Repeat("*?", 11) + "*b": false, "*" + strings.Repeat("a", 23): true, "*" + strings.Repeat("a", 22) + "b": false,
	} {
		if scope.Fits(p, long) != want {
			t.Errorf("%q: not %v", p, want)
		}
	}
}

// A pattern, as rules for texts say it.
var patternForm = regexp.MustCompile(`^(?:[^~\x00-\x1f\x7f]|~[^\x00-\x1f\x7f])*$`)

// isPattern tells whether p is a pattern, by those rules.
func isPattern(p string) bool {
	return utf8.ValidString(p) && utf8.RuneCountInString(p) <= 24 && patternForm.MatchString(p)
}

// ruleOf is a pattern, said as a rule for texts.
func ruleOf(p string) *regexp.Regexp {
	rule := regexp.MustCompile(`~.|[*?]|[^~*?]`).ReplaceAllStringFunc(p, func(s string) string {
		switch s {
		case "*":
			return ".*"
		case "?":
			return "."
		}
		if len(s) > 1 && s[0] == '~' {
			s = s[1:]
		}
		return regexp.QuoteMeta(s)
	})
	return regexp.MustCompile(`(?s)\A` + rule + `\z`)
}

// P5.1: all short patterns and values, held against the rules.
func TestFitsOfAll(t *testing.T) {
	values := texts(4, "a", "é", "*", "~", "?")
	for _, p := range texts(4, "a", "é", "*", "?", "~", "\xff") {
		is := isPattern(p)
		if scope.IsPattern(p) != is {
			t.Errorf("%q: not %v", p, is)
		}
		if !is {
			for _, v := range values[:50] {
				if scope.Fits(p, v) {
					t.Errorf("%q stands for %q", p, v)
				}
			}
			continue
		}
		rule := ruleOf(p)
		for _, v := range values {
			if want := rule.MatchString(v); scope.Fits(p, v) != want {
				t.Errorf("%q, %q: not %v", p, v, want)
			}
		}
	}
}

// P5.1: longer patterns of stars, held against the rules.
func TestFitsOfStars(t *testing.T) {
	values := texts(7, "a", "b")
	for _, p := range texts(6, "a", "b", "*") {
		rule := ruleOf(p)
		for _, v := range values {
			if want := rule.MatchString(v); scope.Fits(p, v) != want {
				t.Errorf("%q, %q: not %v", p, v, want)
			}
		}
	}
}

// P5.1: quoted texts; those that no pattern can tell are quoted, too.
func TestQuote(t *testing.T) {
	for v, want := range map[string]string{
		"": "", "a": "a", "*": "~*", "?": "~?", "~": "~~", "*é?~": "~*é~?~~", "~*": "~~~*", "a~b": "a~~b", ";": ";", "=,\\": "=,\\", "\ufffd": "\ufffd", "\x00\x1f\x7f": "\x00\x1f\x7f",
		strings.Repeat("~", 24): strings.Repeat("~", 48), strings.Repeat("*x", 1000): strings.Repeat("~*x", 1000),
	} {
		if s := scope.Quote(v); s != want {
			t.Errorf("%q: %q, not %q", v, s, want)
		}
	}
}

// P5.3: a quoted value stands for itself alone, and `*` for all.
func TestQuotedStandsAlone(t *testing.T) {
	values := texts(4, "a", "é", "*", "~", "?", ";")
	for i, v := range values {
		if !scope.Fits("*", v) || !scope.Fits(scope.Quote(v), v) {
			t.Errorf("%q: %q", v, scope.Quote(v))
		}
		for j, w := range values[:260] {
			if i != j && scope.Fits(scope.Quote(v), w) {
				t.Errorf("%q stands for %q", scope.Quote(v), w)
			}
		}
	}
}

// scopes are scopes.
func scopes() []string {
	l := []string{
		"", "a=", "a=*", "a=x", "a=*;b=x?", "a=;b=", "a=;aa=;ab=;b=", "a=1;b=1;c=1;d=1", "a=b=c", "a==", "a=~=;b=x", "a=x,b=y", "a= ", "a=\\", "a=\ufffd", "abcdefghijkl=x", "z=~~", "a=~*~?~~",
		"a=" + strings.Repeat("😀", 24), "a=" + strings.Repeat("~x", 12),
	}
	longest := "=" + strings.Repeat("😀", 24)
	return append(l, "abcdefghijka"+longest+";abcdefghijkb"+longest+";abcdefghijkc"+longest+";abcdefghijkd"+longest)
}

// notScopes are texts that are no scopes: for want of a part, for a part too many, for a name, a pattern, an order that is none.
func notScopes() []string {
	l := []string{
		"a", "=", "=x", "x", "*", "a*", ";", ";;", "a=x;", ";a=x", "a=x;;b=x", "a=x;b", "a=x;=", "a=x;=x", "a;b=x", "a=x; b=x", " a=x", "a =x", "a:x", "a=x,b=x;", "~a=x", "*=x", "?=x",
		"A=x", "aB=x", "a1=x", "é=x", "_=x", "a\x00=x", "abcdefghijklm=x", strings.Repeat("a", 100000) + "=x",
		"b=x;a=x", "a=x;a=x", "a=x;a=y", "a=;a=", "a=x;b=x;a=x", "b=;aa=", "ab=;a=", "a=;c=;b=", "a=1;b=1;c=1;c=1",
		"a=1;b=1;c=1;d=1;e=1", "a=;b=;c=;d=;e=", "a=1;b=1;c=1;d=1;", "a=1;b=1;c=1;d=1;e=1;f=1;g=1",
		strings.Repeat("a=;", 100000) + "a=", strings.Repeat(";", 100000), strings.Repeat("=", 100000),
		"a=~;", "a=x;b=~;", "a=~;b=x", "a=~;c=x", "a=x~;b=x",
	}
	for _, p := range notPatterns() {
		l = append(l, "a="+p, "a="+p+";b=x", "a=;b="+p)
	}
	for _, s := range wrongs() {
		l = append(l, s, s+"=x", "a"+s+"=x", "a=x;"+s, "a=x"+s)
	}
	return l
}

// P5.1: texts that are scopes, and some that are not.
func TestRight(t *testing.T) {
	for _, s := range scopes() {
		if !scope.Right(s) {
			t.Errorf("%q is no scope", s)
		}
	}
	for _, s := range notScopes() {
		if scope.Right(s) {
			t.Errorf("%.99q is a scope", s)
		}
	}
}

// The parts of a scope, as rules for texts say them.
var (
	termForm  = regexp.MustCompile(`^([a-z]{1,12})=([^;]*)$`)
	termsForm = regexp.MustCompile(`^[^;]+(?:;[^;]+){0,3}$`)
)

// termsOf are the names and the patterns of a scope by turns, and whether s is one, by those rules.
func termsOf(s string) ([]string, bool) {
	if s == "" {
		return nil, true
	}
	if !utf8.ValidString(s) || !termsForm.MatchString(s) {
		return nil, false
	}
	var l []string
	for part := range strings.SplitSeq(s, ";") {
		m := termForm.FindStringSubmatch(part)
		if m == nil || !isPattern(m[2]) || len(l) > 0 && l[len(l)-2] >= m[1] {
			return nil, false
		}
		l = append(l, m[1], m[2])
	}
	return l, true
}

// valued is the value of a set's label of that name, and whether it has one.
func valued(l []api.Label, name string) (string, bool) {
	i := slices.IndexFunc(l, func(x api.Label) bool { return x.Name == name })
	if i < 0 {
		return "", false
	}
	return l[i].Value, true
}

// P5.1, P5.2: all short texts, held against the rules, with all that they mean.
func TestRightOfAllTexts(t *testing.T) {
	sets := [][]api.Label{of("a", ""), of("a", "a"), of("a", "=", "b", "a"), of("ab", "ba"), of("a", "~", "ab", "", "b", "xé"), of("c", "a")}
	l := texts(6, "a", "b", "=", ";", "~", "*")
	l = append(l, texts(6, "a=", "ab=", "b=", ";", "?", "é")...)
	l = append(l, texts(8, ";a=", ";b=", "a=", "*")...)
	for _, s := range l {
		terms, is := termsOf(s)
		if scope.Right(s) != is {
			t.Errorf("%q: not %v", s, is)
		}
		for _, set := range sets {
			want, e := is, api.OK
			if !is {
				e = api.ErrScope
			}
			for pair := range slices.Chunk(terms, 2) {
				v, has := valued(set, pair[0])
				want = want && has && ruleOf(pair[1]).MatchString(v)
			}
			if got, f := scope.Means(s, set); got != want || f != e {
				t.Errorf("%q, %q: %v, %d, not %v, %d", s, set, got, f, want, e)
			}
		}
	}
}

// P5.2: what scopes mean, term by term.
func TestMeans(t *testing.T) {
	l := of("a", "x*", "city", "é", "z", "")
	for s, want := range map[string]bool{
		"": true, "a=x*": true, "a=x~*": true, "a=*": true, "a=??": true, "a=x": false, "a=x~?": false, "a=?": false, "a=": false,
		"a=x~*;city=?": true, "a=x~*;city=é;z=": true, "a=y;city=é": false, "a=*;city=e": false, "city=é": true, "city=e*": false,
		"z=": true, "z=*": true, "z=?": false, "b=*": false, "b=": false, "a=*;b=*": false, "b=*;z=*": false, "cit=*": false, "citya=*": false, "aa=*": false,
		"a=*;b=;city=*;z=*": false, "a=*;city=*;z=*;zz=*": false,
	} {
		if is, e := scope.Means(s, l); is != want || e != api.OK {
			t.Errorf("%q: %v, %d", s, is, e)
		}
	}
	six := of("a", "1", "b", "2", "c", "3", "d", "4", "e", "5", "f", "6")
	for s, want := range map[string]bool{"f=6": true, "e=5;f=6": true, "c=3;d=4;e=5;f=6": true, "c=3;d=4;e=5;f=5": false, "g=*": false, "a=1;b=2;c=3;d=?": true} {
		if is, e := scope.Means(s, six); is != want || e != api.OK {
			t.Errorf("%q: %v, %d", s, is, e)
		}
	}
}

// notSets are lists that are no sets.
func notSets() [][]api.Label {
	l := [][]api.Label{
		nil, {},
		of("b", "1", "a", "2"), of("a", "1", "a", "1"), of("a", "1", "a", "2"),
		of("", "x"), of("A", "x"), of("a;", "x"), of("abcdefghijklm", "x"), of("a", "x", "", ""), of("a", "x", "b=", "x"),
		of("a", "", "b", "", "c", "", "d", "", "e", "", "f", "", "g", ""),
		of("a", "", "b", "", "c", "", "d", "", "e", "", "e", ""), of("a", "", "b", "", "c", "", "d", "", "f", "", "e", ""), of("a", "", "b", "", "c", "", "d", "", "e", "\x00"),
		of("a", strings.Repeat("x", 25)), of("a", strings.Repeat("x", 100000)),
		slices.Repeat(of("a", ""), 100000),
	}
	for _, s := range append(controls(), wrongs()...) {
		l = append(l, of("a", s), of("a", "x", "b", "x"+s))
	}
	return l
}

// P5.2: scopes that are none, of right and of wrong lists.
func TestMeansOfNoScope(t *testing.T) {
	for _, s := range notScopes() {
		for _, l := range [][]api.Label{nil, of("a", "x"), of("b", "1", "a", "1"), of("a", "x", "b", "x")} {
			if is, e := scope.Means(s, l); is || e != api.ErrScope {
				t.Errorf("%.99q, %q: %v, %d", s, l, is, e)
			}
		}
	}
}

// P5.2: lists that are no sets, of scopes that would mean them, and of others.
func TestMeansOfNoSet(t *testing.T) {
	for _, l := range notSets() {
		for _, s := range []string{"", "a=*", "b=x", "zz=*", "a"} {
			if is, e := scope.Means(s, l); is || e != api.ErrScope {
				t.Errorf("%q, %.99q: %v, %d", s, l, is, e)
			}
		}
		if s, e := scope.Exactly(l); s != "" || e != api.ErrScope {
			t.Errorf("%.99q: %q, %d", l, s, e)
		}
	}
}

// P5.2: scopes of sets, of four labels at most.
func TestExactly(t *testing.T) {
	for want, l := range map[string][]api.Label{
		"a=x~*;city=é":                   of("a", "x*", "city", "é"),
		"a=":                             of("a", ""),
		"a=~~~*~?":                       of("a", "~*?"),
		"a==":                            of("a", "="),
		`a=,b=c\`:                        of("a", `,b=c\`),
		"a=1;b=2;c=3;d=4":                of("a", "1", "b", "2", "c", "3", "d", "4"),
		"a=1;b=2;c=3;d=5":                of("a", "1", "b", "2", "c", "3", "d", "5", "e", "4"),
		"a=1;b=2;c=3;d=6":                of("a", "1", "b", "2", "c", "3", "d", "6", "e", ";", "f", strings.Repeat("*", 24)),
		"abcdefghijkl=;z=~?":             of("abcdefghijkl", "", "z", "?"),
		"a=" + strings.Repeat("😀", 24):   of("a", strings.Repeat("😀", 24)),
		"a=" + strings.Repeat("~~", 12):  of("a", strings.Repeat("~", 12)),
		"a=~*" + strings.Repeat("x", 22): of("a", "*"+strings.Repeat("x", 22)),
	} {
		s, e := scope.Exactly(l)
		if s != want || e != api.OK {
			t.Errorf("%q: %q, %d, not %q", l, s, e, want)
		}
		if is, e := scope.Means(s, l); !is || e != api.OK || !scope.Right(s) {
			t.Errorf("%q of %q: %v, %d", s, l, is, e)
		}
	}
}

// P5.2: sets of which no scope tells the first four labels: for a semicolon, or for a value that is too long when it is quoted.
func TestExactlyOfNone(t *testing.T) {
	for _, l := range [][]api.Label{
		of("a", ";"), of("a", "x;"), of("a", ";x"), of("a", "x;b=y"), of("a", "x;b=y", "b", "y"), of("a", "x;b=y", "c", "y"), of("a", "x", "b", ";"), of("a", "x", "b", ";c=*"), of("a", "*;b=*", "b", "*"), of("a", ";", "b", ";", "c", ";", "d", ";"),
		of("a", strings.Repeat("*", 13)), of("a", "?"+strings.Repeat("x", 23)), of("a", strings.Repeat("x", 23)+"~"), of("a", "x", "b", strings.Repeat("~", 24)),
		of("a", "", "b", "", "c", "", "d", ";"), of("a", "", "b", "", "c", "", "d", ";", "e", ""),
	} {
		if !label.Right(l) {
			t.Errorf("%q is no set", l)
		}
		if s, e := scope.Exactly(l); s != "" || e != api.ErrScope {
			t.Errorf("%q: %q, %d", l, s, e)
		}
	}
}

// P5.2, P5.3: what Exactly tells means a set alone, of all with as many labels.
func TestExactlyMeansThatAlone(t *testing.T) {
	values := texts(2, "a", "*", "?", "~", "é", "=")
	var sets [][]api.Label
	for _, v := range values {
		sets = append(sets, of("a", v, "b", "x"), of("a", "x", "b", v), of("a", v, "c", "x"))
	}
	for _, l := range sets {
		s, e := scope.Exactly(l)
		if e != api.OK {
			t.Errorf("%q: %d", l, e)
		}
		for _, other := range sets {
			if is, e := scope.Means(s, other); is != slices.Equal(l, other) || e != api.OK {
				t.Errorf("%q of %q: %v, %d", s, other, is, e)
			}
		}
	}
}

// P5.3: a scope of more terms means fewer sets, just those that all its terms mean.
func TestMoreTerms(t *testing.T) {
	patterns := []string{"", "*", "?", "x", "x*", "*y", "~*"}
	values := []string{"", "x", "y", "xy", "*"}
	means := func(s string, l []api.Label) bool {
		is, e := scope.Means(s, l)
		if e != api.OK {
			t.Errorf("%q of %q: %d", s, l, e)
		}
		return is
	}
	for _, p := range patterns {
		for _, q := range patterns {
			for _, v := range values {
				for _, w := range values {
					for _, l := range [][]api.Label{of("a", v, "b", w), of("b", v), of("a", v), of("a", v, "c", w)} {
						one, other := "a="+p, "b="+q
						if both := means(one+";"+other, l); both != (means(one, l) && means(other, l)) || !means("", l) {
							t.Errorf("%q, %q of %q: %v", one, other, l, both)
						}
					}
				}
			}
		}
	}
}

// R3, R4: lists that are handed in stay as they are, with their spare room; what a call answers hangs on what it is handed alone.
func TestOnesOwn(t *testing.T) {
	room := of("a", "*", "b", "?", "c", "~", "d", "x", "e", "*", "spare", "*")
	want := slices.Clone(room)
	for range 2 {
		for n := range 6 {
			scope.Exactly(room[:n])
			scope.Means("a=~*", room[:n])
			scope.Means("a", room[:n])
		}
		if s, e := scope.Exactly(room[:2]); s != "a=~*;b=~?" || e != api.OK {
			t.Errorf("%q, %d", s, e)
		}
	}
	if !slices.Equal(room, want) {
		t.Error("handed in:", room)
	}
}
