package caps_test

import (
	"fmt"
	"math"
	"slices"
	"strings"
	"testing"

	"catchpole/api"
	"catchpole/bits"
	"catchpole/byteset"
	"catchpole/caps"
	"catchpole/core"
	"catchpole/parse"
	"catchpole/value"
)

// The functions with the signatures that the chapter lists: others would not
// build.
var (
	_ func(core.Core, value.Value, int, int) ([]caps.Span, api.Errno) = caps.Of
	_ func([]caps.Span) string                                        = caps.Text
	_                                                                 = caps.Span(struct{ From, To int }{})
)

// The cores begin with core, and the values do not.

func coreNothing() core.Core { return core.Core{} }

func coreEmpty() core.Core { return core.Core{Kind: 1} }

func coreSet(text string) core.Core {
	return core.Core{Kind: 2, Set: byteset.Of([]byte(text)...)}
}

func coreConcat(l ...core.Core) core.Core { return core.Core{Kind: 3, L: l} }

func coreAlternative(l ...core.Core) core.Core { return core.Core{Kind: 4, L: l} }

func coreStar(l ...core.Core) core.Core { return core.Core{Kind: 5, L: l} }

func coreGroup(number int, l ...core.Core) core.Core { return core.Core{Kind: 6, N: number, L: l} }

func coreRenewal(l ...core.Core) core.Core { return core.Core{Kind: 7, L: l} }

func empty() value.Value { return value.Value{Kind: 1} }

func letter(b byte) value.Value { return value.Value{Kind: 2, B: b} }

func concat(l ...value.Value) value.Value { return value.Value{Kind: 3, L: l} }

func left(l ...value.Value) value.Value { return value.Value{Kind: 4, L: l} }

func right(l ...value.Value) value.Value { return value.Value{Kind: 5, L: l} }

func star(l ...value.Value) value.Value { return value.Value{Kind: 6, L: l} }

func group(l ...value.Value) value.Value { return value.Value{Kind: 7, L: l} }

// unset is the span of a group that is not set.
func unset() caps.Span { return caps.Span{From: -1, To: -1} }

// cut is the beginning of a long text.
func cut(text string) string { return text[:min(len(text), 200)] }

// show is a text of a core, which need not be valid.
func show(c core.Core) string {
	if core.Good(c) {
		return cut(core.Text(c))
	}
	return fmt.Sprintf("a wrong core of kind %d, of the number %d and with %d elements", c.Kind, c.N, len(c.L))
}

// wantSpans asks for those spans, of as many groups as there are in the list.
func wantSpans(t *testing.T, c core.Core, v value.Value, at int, want []caps.Span) {
	t.Helper()
	got, err := caps.Of(c, v, at, len(want)-1)
	if err != api.OK || !slices.Equal(got, want) {
		t.Errorf("Of %s and %s at %d: %v, %v, want %v", show(c), cut(value.Text(v)), at, got, err, want)
	}
}

// wantError asks that there is an error, and no spans.
func wantError(t *testing.T, c core.Core, v value.Value, at, groups int) {
	t.Helper()
	if got, err := caps.Of(c, v, at, groups); err != api.EARG || len(got) != 0 {
		t.Errorf("Of %s and %s at %d with %d groups: %v, %v", show(c), cut(value.Text(v)), at, groups, got, err)
	}
}

// shifted is l with by added to each offset.
func shifted(l []caps.Span, by int) []caps.Span {
	var all []caps.Span
	for _, s := range l {
		if s != unset() {
			s.From, s.To = s.From+by, s.To+by
		}
		all = append(all, s)
	}
	return all
}

// spansOf reads a text of spans.
func spansOf(t *testing.T, text string) []caps.Span {
	t.Helper()
	var all []caps.Span
	for _, word := range strings.Fields(text) {
		s := unset()
		if word != "-" {
			if _, err := fmt.Sscanf(word, "(%d,%d)", &s.From, &s.To); err != nil {
				t.Fatalf("%s: %v", text, err)
			}
		}
		all = append(all, s)
	}
	return all
}

// wantText asks for the spans that text tells of v at 0, for every number of
// groups, which leaves out the spans behind it or adds unset ones; and for those
// at other offsets.
func wantText(t *testing.T, c core.Core, v value.Value, text string) {
	t.Helper()
	want := spansOf(t, text)
	for len(want) <= api.MaxGroups {
		want = append(want, unset())
	}
	for groups := range api.MaxGroups + 1 {
		wantSpans(t, c, v, 0, want[:groups+1])
	}
	groups := strings.Count(text, " ")
	for _, at := range []int{1, 2, 7, 255, 256, 1<<30 - 1, 1 << 30} {
		wantSpans(t, c, v, at, shifted(want[:groups+1], at))
	}
	got, _ := caps.Of(c, v, 0, groups)
	if caps.Text(got) != text {
		t.Errorf("Text of %v: %q, want %q", got, caps.Text(got), text)
	}
}

// coreOf is the core of a pattern.
func coreOf(t *testing.T, pattern string) core.Core {
	t.Helper()
	p, _, err := parse.Of(pattern)
	if err != api.OK {
		t.Fatalf("%s: %v", pattern, err)
	}
	c, err := core.Of(p.Root)
	if err != api.OK {
		t.Fatalf("%s: %v", pattern, err)
	}
	return c
}

// TestExample asks what the chapter has as an example.
func TestExample(t *testing.T) {
	c := coreOf(t, "(a)|b")
	got, err := caps.Of(c, right(letter('b')), 0, 1)
	if err != api.OK || caps.Text(got) != "(0,1) -" {
		t.Errorf("Of (a)|b: %v, %v", got, err)
	}
}

// TestPatterns asks of patterns, with the choices and the bytes of a value.
func TestPatterns(t *testing.T) {
	for _, x := range []struct{ pattern, choices, s, want string }{
		{"a", "", "a", "(0,1)"},
		{"ab", "", "ab", "(0,2)"},
		{"a*", "1", "", "(0,0)"},
		{"a*", "0001", "aaa", "(0,3)"},
		{"(a)", "", "a", "(0,1) (0,1)"},
		{"(?:a)", "", "a", "(0,1)"},
		{"(a)|b", "0", "a", "(0,1) (0,1)"},
		{"(a)|b", "1", "b", "(0,1) -"},
		{"a|(b)", "0", "a", "(0,1) -"},
		{"a|(b)", "1", "b", "(0,1) (0,1)"},
		{"(a)|(b)", "0", "a", "(0,1) (0,1) -"},
		{"(a)|(b)", "1", "b", "(0,1) - (0,1)"},
		{"(a)|(a)", "0", "a", "(0,1) (0,1) -"},
		{"(a)|(a)", "1", "a", "(0,1) - (0,1)"},
		{"(a)(b)", "", "ab", "(0,2) (0,1) (1,2)"},
		{"(a)b(c)", "", "abc", "(0,3) (0,1) (2,3)"},
		{"((a)(b))", "", "ab", "(0,2) (0,2) (0,1) (1,2)"},
		{"(((a)b)c)d", "", "abcd", "(0,4) (0,3) (0,2) (0,1)"},
		{"a(b(c(d)))", "", "abcd", "(0,4) (1,4) (2,4) (3,4)"},
		{"(a*)b", "1", "b", "(0,1) (0,0)"},
		{"(a*)b", "001", "aab", "(0,3) (0,2)"},
		{"b(a*)", "1", "b", "(0,1) (1,1)"},
		{"(a*)(a*)", "0101", "aa", "(0,2) (0,1) (1,2)"},
		{"(a*)(a*)", "0011", "aa", "(0,2) (0,2) (2,2)"},
		{"(a*)(a*)", "1001", "aa", "(0,2) (0,0) (0,2)"},
		{"(a)*", "1", "", "(0,0) -"},
		{"(a)*", "01", "a", "(0,1) (0,1)"},
		{"(a)*", "00001", "aaaa", "(0,4) (3,4)"},
		{"((a)|b)*", "1", "", "(0,0) - -"},
		{"((a)|b)*", "00" + "01" + "1", "ab", "(0,2) (1,2) -"},
		{"((a)|b)*", "01" + "00" + "1", "ba", "(0,2) (1,2) (1,2)"},
		{"((a)|(b))*", "00" + "01" + "1", "ab", "(0,2) (1,2) - (1,2)"},
		{"(?:(a)|(b))*", "01" + "00" + "00" + "1", "baa", "(0,3) (2,3) -"},
		{"(?:(a)|b)*", "00" + "01" + "1", "ab", "(0,2) -"},
		{"(c)((a)|b)*", "00" + "01" + "1", "cab", "(0,3) (0,1) (2,3) -"},
		{"((a)|b)*(c)", "00" + "01" + "1", "abc", "(0,3) (1,2) - (2,3)"},
		{"((a)*b)*", "0" + "01" + "0" + "1" + "1", "abb", "(0,3) (2,3) -"},
		{"((a)*b)*", "0" + "001" + "0" + "01" + "1", "aabab", "(0,5) (3,5) (3,4)"},
		{"((a)*(b)*c)*", "0" + "01" + "1" + "0" + "1" + "01" + "1", "acbc", "(0,4) (2,4) - (2,3)"},
		{"(((a)*b)*c)*", "0" + "0" + "01" + "1" + "0" + "1" + "1", "abcc", "(0,4) (3,4) - -"},
		{"(a)+", "1", "a", "(0,1) (0,1)"},
		{"(a)+", "01", "aa", "(0,2) (1,2)"},
		{"(a)+", "0001", "aaaa", "(0,4) (3,4)"},
		{"(?:(a)|b)+", "0" + "1", "a", "(0,1) (0,1)"},
		{"(?:(a)|b)+", "0" + "01" + "1", "ab", "(0,2) -"},
		{"(?:(a)|b)+", "1" + "00" + "1", "ba", "(0,2) (1,2)"},
		{"(?:(a)|b)+", "0" + "00" + "01" + "1", "aab", "(0,3) -"},
		{"(a)?", "1", "", "(0,0) -"},
		{"(a)?", "0", "a", "(0,1) (0,1)"},
		{"(a?)(b?)", "10", "b", "(0,1) (0,0) (0,1)"},
		{"(a?)(b?)", "11", "", "(0,0) (0,0) (0,0)"},
		{"(a){2}", "", "aa", "(0,2) (1,2)"},
		{"(?:(a)|b){2}", "00", "aa", "(0,2) (1,2)"},
		{"(?:(a)|b){2}", "01", "ab", "(0,2) -"},
		{"(?:(a)|b){2}", "10", "ba", "(0,2) (1,2)"},
		{"(?:(a)|(b)){3}", "011", "abb", "(0,3) - (2,3)"},
		{"(?:(a)|(b)){3}", "110", "bba", "(0,3) (2,3) -"},
		{"(?:(a)|b){0,2}", "1", "", "(0,0) -"},
		{"(?:(a)|b){0,2}", "0" + "0" + "1", "a", "(0,1) (0,1)"},
		{"(?:(a)|b){0,2}", "0" + "0" + "0" + "1", "ab", "(0,2) -"},
		{"(?:(a)|b){1,2}", "0" + "1", "a", "(0,1) (0,1)"},
		{"(?:(a)|b){1,2}", "0" + "0" + "1", "ab", "(0,2) -"},
		{"(?:(a)|b){2,}", "0" + "1" + "1", "ab", "(0,2) -"},
		{"(?:(a)|b){2,}", "1" + "0" + "1", "ba", "(0,2) (1,2)"},
		{"(?:(a)|b){2,}", "1" + "0" + "01" + "1", "bab", "(0,3) -"},
		{"(?:(a)|b){2,}", "1" + "0" + "00" + "1", "baa", "(0,3) (2,3)"},
		{"(?:(a){2}|b){2}", "0" + "1", "aab", "(0,3) -"},
		{"(?:(a){2}|b){2}", "1" + "0", "baa", "(0,3) (2,3)"},
		{"(a){0}b", "", "b", "(0,1) -"},
		{"(a{0})b", "", "b", "(0,1) (0,0)"},
		{"(a)(?:(b)|c){2}", "01", "abc", "(0,3) (0,1) -"},
		{"(a|ab)(c|bcd)(d*)", "0" + "1" + "1", "abcd", "(0,4) (0,1) (1,4) (4,4)"},
		{"(a|ab)(c|bcd)(d*)", "1" + "0" + "01", "abcd", "(0,4) (0,2) (2,3) (3,4)"},
	} {
		c := coreOf(t, x.pattern)
		v, err := bits.Get(c, x.choices, []byte(x.s))
		if err != api.OK {
			t.Errorf("%s has no value with %q and %q", x.pattern, x.choices, x.s)
			continue
		}
		wantText(t, c, v, x.want)
	}
}

// TestCores asks of cores that no pattern has, and of iterations without a byte.
func TestCores(t *testing.T) {
	a, b, c, e := letter('a'), letter('b'), letter('c'), empty()
	coreA, coreB, coreC, coreE := coreSet("a"), coreSet("b"), coreSet("c"), coreEmpty()
	one := coreGroup(1, coreA)
	option := coreAlternative(coreGroup(1, coreB), coreC)
	for _, x := range []struct {
		c    core.Core
		v    value.Value
		want string
	}{
		{coreE, e, "(0,0)"},
		{coreE, e, "(0,0) - - -"},
		// A group whose number has none below it.
		{coreGroup(3, coreA), group(a), "(0,1) - - (0,1)"},
		{coreConcat(coreGroup(3, coreA), coreGroup(2, coreB)), concat(group(a), group(b)), "(0,2) - (1,2) (0,1)"},
		// A number that several groups have: the last one that was traversed
		// counts, and that is the outer one.
		{coreConcat(one, one), concat(group(a), group(a)), "(0,2) (1,2)"},
		{coreConcat(one, coreGroup(1, coreE)), concat(group(a), group(e)), "(0,1) (1,1)"},
		{coreGroup(1, coreConcat(coreB, one)), group(concat(b, group(a))), "(0,2) (0,2)"},
		{coreGroup(1, coreGroup(1, coreA)), group(group(a)), "(0,1) (0,1)"},
		{coreAlternative(one, coreGroup(1, coreB)), right(group(b)), "(0,1) (0,1)"},
		// Each iteration unsets, and a star without one does not.
		{coreConcat(one, coreStar(option)), concat(group(a), star()), "(0,1) (0,1)"},
		{coreConcat(one, coreStar(option)), concat(group(a), star(right(c))), "(0,2) -"},
		{coreConcat(one, coreStar(option)), concat(group(a), star(left(group(b)))), "(0,2) (1,2)"},
		{coreConcat(one, coreStar(option)), concat(group(a), star(left(group(b)), right(c))), "(0,3) -"},
		{coreConcat(one, coreStar(option)), concat(group(a), star(right(c), left(group(b)))), "(0,3) (2,3)"},
		{coreConcat(coreStar(option), one), concat(star(left(group(b)), right(c)), group(a)), "(0,3) (2,3)"},
		{coreConcat(one, coreStar(coreC)), concat(group(a), star(c, c)), "(0,3) (0,1)"},
		{coreStar(coreAlternative(one, coreStar(coreGroup(2, coreB)))), star(left(group(a)), right(star())), "(0,1) - -"},
		{coreStar(coreAlternative(one, coreStar(coreGroup(2, coreB)))), star(right(star(group(b))), left(group(a))), "(0,2) (1,2) -"},
		{coreStar(coreConcat(one, coreStar(coreGroup(2, coreB)))), star(concat(group(a), star(group(b), group(b))), concat(group(a), star())), "(0,4) (3,4) -"},
		{coreStar(coreConcat(one, coreStar(coreGroup(2, coreB)))), star(concat(group(a), star(group(b), group(b)))), "(0,3) (0,1) (2,3)"},
		// A renewal unsets what is within it, and nothing else.
		{coreConcat(one, coreRenewal(option)), concat(group(a), right(c)), "(0,2) -"},
		{coreConcat(one, coreRenewal(option)), concat(group(a), left(group(b))), "(0,2) (1,2)"},
		{coreConcat(one, option), concat(group(a), right(c)), "(0,2) (0,1)"},
		{coreConcat(one, coreRenewal(coreC)), concat(group(a), c), "(0,2) (0,1)"},
		{coreConcat(coreRenewal(one), coreC), concat(group(a), c), "(0,2) (0,1)"},
		{coreConcat(one, coreRenewal(coreAlternative(coreGroup(2, coreB), coreC))), concat(group(a), right(c)), "(0,2) (0,1) -"},
		{coreConcat(one, coreRenewal(coreRenewal(option))), concat(group(a), right(c)), "(0,2) -"},
		{coreConcat(one, coreRenewal(coreStar(coreGroup(1, coreB)))), concat(group(a), star()), "(0,1) -"},
		{coreConcat(one, coreAlternative(coreRenewal(coreGroup(1, coreB)), coreC)), concat(group(a), right(c)), "(0,2) (0,1)"},
		{coreConcat(one, coreRenewal(coreAlternative(coreC, coreStar(coreConcat(coreC, coreRenewal(coreGroup(1, coreB))))))), concat(group(a), left(c)), "(0,2) -"},
		{coreConcat(one, coreGroup(2, coreRenewal(option))), concat(group(a), group(right(c))), "(0,2) - (1,2)"},
		{coreConcat(one, coreRenewal(coreGroup(2, option))), concat(group(a), group(right(c))), "(0,2) - (1,2)"},
		{coreRenewal(one), group(a), "(0,1) (0,1)"},
		// A group that no value can match is a group within it, too.
		{coreConcat(one, coreStar(coreAlternative(coreConcat(one, coreNothing()), coreA))), concat(group(a), star(right(a))), "(0,2) -"},
		{coreConcat(one, coreRenewal(coreAlternative(coreGroup(1, coreNothing()), coreA))), concat(group(a), right(a)), "(0,2) -"},
		// Iterations without a byte.
		{coreStar(coreE), star(e, e), "(0,0)"},
		{coreStar(coreGroup(1, coreE)), star(group(e)), "(0,0) (0,0)"},
		{coreConcat(one, coreStar(coreE)), concat(group(a), star(e)), "(0,1) (0,1)"},
		{coreStar(coreAlternative(one, coreE)), star(left(group(a)), right(e)), "(0,1) -"},
		{coreStar(coreAlternative(one, coreE)), star(right(e), left(group(a))), "(0,1) (0,1)"},
		{coreStar(coreGroup(1, coreAlternative(coreA, coreE))), star(group(left(a)), group(right(e))), "(0,1) (1,1)"},
		{coreStar(coreStar(one)), star(star(group(a)), star()), "(0,1) -"},
		{coreStar(coreStar(one)), star(star(), star(group(a), group(a))), "(0,2) (1,2)"},
	} {
		wantText(t, x.c, x.v, x.want)
	}
}

// TestGroups asks of as many groups as there may be, each of them beside the
// others and within the others.
func TestGroups(t *testing.T) {
	c, v := coreGroup(api.MaxGroups, coreSet("a")), group(letter('a'))
	beside := []caps.Span{{From: api.MaxGroups - 1, To: api.MaxGroups}}
	nested, inner := coreGroup(api.MaxGroups, coreSet("a")), group(letter('a'))
	for n := api.MaxGroups - 1; n > 0; n-- {
		c, v = coreConcat(coreGroup(n, coreSet("a")), c), concat(group(letter('a')), v)
		beside = slices.Insert(beside, 0, caps.Span{From: n - 1, To: n})
		nested, inner = coreGroup(n, coreConcat(coreSet("b"), nested)), group(concat(letter('b'), inner))
	}
	within := []caps.Span{{From: 0, To: api.MaxGroups}}
	for n := range api.MaxGroups {
		within = append(within, caps.Span{From: n, To: api.MaxGroups})
	}
	wantText(t, c, v, caps.Text(append([]caps.Span{{From: 0, To: api.MaxGroups}}, beside...)))
	wantText(t, nested, inner, caps.Text(within))
	// One iteration more, in which they are unset.
	for _, x := range []struct {
		c core.Core
		v value.Value
	}{{c, v}, {nested, inner}} {
		wantText(t, coreStar(coreAlternative(x.c, coreSet("c"))), star(left(x.v), right(letter('c'))), "(0,"+fmt.Sprint(value.Len(x.v)+1)+")"+strings.Repeat(" -", api.MaxGroups))
		again := coreConcat(x.c, coreRenewal(coreAlternative(x.c, coreSet("c"))))
		wantText(t, again, concat(x.v, right(letter('c'))), "(0,"+fmt.Sprint(value.Len(x.v)+1)+")"+strings.Repeat(" -", api.MaxGroups))
	}
}

func TestText(t *testing.T) {
	for _, x := range []struct {
		l    []caps.Span
		want string
	}{
		{nil, ""},
		{[]caps.Span{}, ""},
		{[]caps.Span{{}}, "(0,0)"},
		{[]caps.Span{{From: 0, To: 1}}, "(0,1)"},
		{[]caps.Span{{From: 3, To: 12}}, "(3,12)"},
		{[]caps.Span{unset()}, "-"},
		{[]caps.Span{unset(), unset()}, "- -"},
		{[]caps.Span{{From: 0, To: 1}, unset()}, "(0,1) -"},
		{[]caps.Span{unset(), {From: 10, To: 200}, unset(), {From: 5, To: 5}}, "- (10,200) - (5,5)"},
		// Those that Of does not return.
		{[]caps.Span{{From: -1, To: 0}}, "(-1,0)"},
		{[]caps.Span{{From: 0, To: -1}}, "(0,-1)"},
		{[]caps.Span{{From: -1, To: 3}, {From: 3, To: -1}}, "(-1,3) (3,-1)"},
		{[]caps.Span{{From: -2, To: -2}}, "(-2,-2)"},
		{[]caps.Span{{From: -1, To: -2}}, "(-1,-2)"},
		{[]caps.Span{{From: 7, To: 2}}, "(7,2)"},
		{[]caps.Span{{From: 1 << 30, To: 1<<30 + 256}}, "(1073741824,1073742080)"},
		{[]caps.Span{{From: 1<<32 - 1, To: 1<<32 - 1}}, "(4294967295,4294967295)"},
		{[]caps.Span{{From: math.MinInt64, To: math.MaxInt64}}, "(-9223372036854775808,9223372036854775807)"},
	} {
		if got := caps.Text(x.l); got != x.want {
			t.Errorf("Text of %v: %q, want %q", x.l, got, x.want)
		}
	}
	const many = 100000
	if got, want := caps.Text(slices.Repeat([]caps.Span{{From: 1, To: 2}, unset()}, many)), strings.Repeat(" (1,2) -", many)[1:]; got != want {
		t.Errorf("Text of many spans: %d bytes, want %d", len(got), len(want))
	}
}
