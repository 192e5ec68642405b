package every_test

import (
	"fmt"
	"slices"
	"testing"

	"catchpole/api"
	"catchpole/byteset"
	"catchpole/core"
	"catchpole/eager"
	"catchpole/every"
	"catchpole/parse"
	"catchpole/value"
)

// The functions with the signatures that the chapter lists: others would not
// build.
var (
	_ func(core.Core, []byte, int) ([]value.Value, api.Errno) = every.All
	_ func(core.Core, []byte, int) int                        = every.Count
	_ func(core.Core, []byte, int, int) ([][]byte, api.Errno) = every.Texts
)

// The cores begin with core, and the values do not.

func coreNothing() core.Core { return core.Core{} }

func coreEmpty() core.Core { return core.Core{Kind: 1} }

func coreSet(text string) core.Core {
	return core.Core{Kind: 2, Set: byteset.Of([]byte(text)...)}
}

func coreConcat(l ...core.Core) core.Core { return core.Core{Kind: 3, L: l} }

func coreAlternative(l ...core.Core) core.Core { return core.Core{Kind: 4, L: l} }

func coreStar(l ...core.Core) core.Core { return core.Core{Kind: 5, L: l} }

func coreGroup(number int, l ...core.Core) core.Core { return core.Core{Kind: 6, N: number, L: l} }

func coreRenewal(l ...core.Core) core.Core { return core.Core{Kind: 7, L: l} }

func empty() value.Value { return value.Value{Kind: 1} }

func letter(b byte) value.Value { return value.Value{Kind: 2, B: b} }

func concat(l ...value.Value) value.Value { return value.Value{Kind: 3, L: l} }

func left(l ...value.Value) value.Value { return value.Value{Kind: 4, L: l} }

func right(l ...value.Value) value.Value { return value.Value{Kind: 5, L: l} }

func star(l ...value.Value) value.Value { return value.Value{Kind: 6, L: l} }

func group(l ...value.Value) value.Value { return value.Value{Kind: 7, L: l} }

// letters is the star of the letters of text.
func letters(text string) value.Value {
	v := star()
	for _, b := range []byte(text) {
		v.L = append(v.L, letter(b))
	}
	return v
}

// coreOf is the core of a pattern.
func coreOf(t *testing.T, pattern string) core.Core {
	t.Helper()
	p, _, err := parse.Of(pattern)
	if err != api.OK {
		t.Fatalf("%s: %v", pattern, err)
	}
	c, err := core.Of(p.Root)
	if err != api.OK {
		t.Fatalf("%s: %v", pattern, err)
	}
	return c
}

// cut is the beginning of a long text.
func cut(text string) string { return text[:min(len(text), 200)] }

// show is a text of a core, which need not be valid.
func show(c core.Core) string {
	if core.Good(c) {
		return cut(core.Text(c))
	}
	return fmt.Sprintf("a wrong core of kind %d, of the number %d and with %d elements", c.Kind, c.N, len(c.L))
}

// textsOf are the texts of the values of l.
func textsOf(l []value.Value) []string {
	var texts []string
	for _, v := range l {
		texts = append(texts, cut(value.Text(v)))
	}
	return texts
}

// wantAll asks for all values of c with the bytes of s, which are those in that
// order, with each most that may make a difference.
func wantAll(t *testing.T, c core.Core, s string, want []value.Value) {
	t.Helper()
	n := len(want)
	for _, most := range []int{n, n + 1, n + 100, api.MaxEvery} {
		if most < n || most > api.MaxEvery {
			continue
		}
		got, err := every.All(c, []byte(s), most)
		if err != api.OK || !slices.EqualFunc(got, want, value.Same) {
			t.Errorf("All of %s, %q and %d: %s, %v, want %s", show(c), cut(s), most, cut(fmt.Sprint(textsOf(got))), err, cut(fmt.Sprint(textsOf(want))))
		}
		if got := every.Count(c, []byte(s), most); got != n {
			t.Errorf("Count of %s, %q and %d: %d, want %d", show(c), cut(s), most, got, n)
		}
	}
	for _, most := range []int{0, 1, n / 2, n - 2, n - 1} {
		if 0 <= most && most < n {
			wantTooMany(t, c, s, most)
		}
	}
}

// wantTooMany asks of values of which there are more than most.
func wantTooMany(t *testing.T, c core.Core, s string, most int) {
	t.Helper()
	if got, err := every.All(c, []byte(s), most); err != api.EFULL || len(got) > 0 {
		t.Errorf("All of %s, %q and %d: %d values, %v, want %v", show(c), cut(s), most, len(got), err, api.EFULL)
	}
	if got := every.Count(c, []byte(s), most); got != most+1 {
		t.Errorf("Count of %s, %q and %d: %d, want %d", show(c), cut(s), most, got, most+1)
	}
}

// wantProper asks of values of c with the bytes of s what the chapter says of each
// of them, and of each two that stand side by side.
func wantProper(t *testing.T, c core.Core, s string, l []value.Value) {
	t.Helper()
	for i, v := range l {
		if !value.Full(c, v) || string(value.Flat(v)) != s {
			t.Errorf("%s is no full value of %s, or has other bytes than %q", cut(value.Text(v)), show(c), cut(s))
		}
		if i > 0 && eager.Cmp(l[i-1], v) != -1 {
			t.Errorf("%s does not precede %s", cut(value.Text(l[i-1])), cut(value.Text(v)))
		}
	}
}

// wantWays asks for all values of c with the bytes of s, by their texts.
func wantWays(t *testing.T, c core.Core, s string, want ...string) {
	t.Helper()
	l, err := every.All(c, []byte(s), api.MaxEvery)
	if err != api.OK || !slices.Equal(textsOf(l), want) {
		t.Errorf("All of %s and %q: %s, %v, want %s", show(c), s, textsOf(l), err, want)
	}
	wantProper(t, c, s, l)
	wantAll(t, c, s, l)
}

// TestExample asks what the chapter has as an example.
func TestExample(t *testing.T) {
	wantWays(t, coreOf(t, "(a|a)"), "a", "<L61>", "<R61>")
	if l, err := every.All(coreOf(t, "(a|a)"), []byte("a"), 2); len(l) != 2 || err != api.OK {
		t.Errorf("%d values, %v", len(l), err)
	}
}

// TestPatterns asks for all values of patterns: what is preferred stands first.
func TestPatterns(t *testing.T) {
	for _, x := range []struct {
		pattern, s string
		want       []string
	}{
		{"a", "a", []string{"61"}},
		{"a", "", nil},
		{"a", "b", nil},
		{"a", "aa", nil},
		{"ab", "ab", []string{"(61,62)"}},
		{"ab", "a", nil},
		{"ab", "abc", nil},
		{"a{0}", "", []string{"E"}},
		{"a{0}", "a", nil},
		{"a|a", "a", []string{"L61", "R61"}},
		{"a|b", "b", []string{"R62"}},
		{"a|ab", "a", []string{"L61"}},
		{"a|ab", "ab", []string{"R(61,62)"}},
		{"a|a|a", "a", []string{"L61", "RL61", "RR61"}},
		{"(?:a|a)|a", "a", []string{"LL61", "LR61", "R61"}},
		{"(?:a|a)(?:a|a)", "aa", []string{"(L61,L61)", "(L61,R61)", "(R61,L61)", "(R61,R61)"}},
		{"(a|ab)(c|bcd)(d*)", "abcd", []string{"(<L61>,(<R(62,(63,64))>,<[]>))", "(<R(61,62)>,(<L63>,<[64]>))"}},
		{"(ab|a)(bcd|c)(d*)", "abcd", []string{"(<L(61,62)>,(<R63>,<[64]>))", "(<R61>,(<L(62,(63,64))>,<[]>))"}},
		{"a?", "", []string{"RE"}},
		{"a?", "a", []string{"L61"}},
		{"(?:a?)(?:a?)", "a", []string{"(L61,RE)", "(RE,L61)"}},
		{"(?:a?){3}", "aa", []string{"(L61,(L61,RE))", "(L61,(RE,L61))", "(RE,(L61,L61))"}},
		{"a{2,3}", "aa", []string{"(61,(61,RE))"}},
		{"a{2,3}", "aaa", []string{"(61,(61,L61))"}},
		{"a{1,3}", "aaa", []string{"(61,L(61,L61))"}},
		{"(?:a|aa){2}", "aaa", []string{"(L61,R(61,61))", "(R(61,61),L61)"}},
		{"a*", "", []string{"[]"}},
		{"a*", "aaa", []string{"[61,61,61]"}},
		{"a*", "aab", nil},
		{"a+", "aa", []string{"(61,[61])"}},
		{"(a)+", "aaa", []string{"(<61>,[<61>,<61>])"}},
		{"(?:a*)(?:a*)", "aa", []string{"([61,61],[])", "([61],[61])", "([],[61,61])"}},
		{"(?:a*)ab", "aaab", []string{"([61,61],(61,62))"}},
		{"(?:a*)*", "", []string{"[]"}},
		{"(?:a*)*", "aaa", []string{"[[61,61,61]]", "[[61,61],[61]]", "[[61],[61,61]]", "[[61],[61],[61]]"}},
		{"(?:(?:a*)*)*", "aa", []string{"[[[61,61]]]", "[[[61],[61]]]", "[[[61]],[[61]]]"}},
		{"(?:a?)*", "", []string{"[]"}},
		{"(?:a?)*", "aa", []string{"[L61,L61]"}},
		{"(?:a|aa)*", "aaa", []string{"[L61,L61,L61]", "[L61,R(61,61)]", "[R(61,61),L61]"}},
		{"(?:aa|a)*", "aaa", []string{"[L(61,61),R61]", "[R61,L(61,61)]", "[R61,R61,R61]"}},
		{"(?:aa|aaa)*", "aaaaaaa", []string{"[L(61,61),L(61,61),R(61,(61,61))]", "[L(61,61),R(61,(61,61)),L(61,61)]", "[R(61,(61,61)),L(61,61),L(61,61)]"}},
		{"(?:a|b|ab)*", "ab", []string{"[L61,RL62]", "[RR(61,62)]"}},
		{"(?:a*|b)*", "aab", []string{"[L[61,61],R62]", "[L[61],L[61],R62]"}},
		{"(?:(?:a|b)*|c)*", "ab", []string{"[L[L61,R62]]", "[L[L61],L[R62]]"}},
		{"(?:(?:a*)(?:b*))*", "ab", []string{"[([61],[62])]", "[([61],[]),([],[62])]"}},
		{"(?:(?:a?)(?:a?))*", "aa", []string{"[(L61,L61)]", "[(L61,RE),(L61,RE)]", "[(L61,RE),(RE,L61)]", "[(RE,L61),(L61,RE)]", "[(RE,L61),(RE,L61)]"}},
		{"(?:a|(?:bb)*)*", "abb", []string{"[L61,R[(62,62)]]"}},
		{"a*|(?:a|b)*", "a", []string{"L[61]", "R[L61]"}},
		{"(?:a*)(?:a{0}|a)", "a", []string{"([61],LE)", "([],R61)"}},
		{"(a)|(b)|(a)", "a", []string{"L<61>", "RR<61>"}},
		{"((a)|(a))", "a", []string{"<L<61>>", "<R<61>>"}},
		{"[a-c][^a]", "bz", []string{"(62,7a)"}},
		{"[a-c][^a]", "ba", nil},
	} {
		wantWays(t, coreOf(t, x.pattern), x.s, x.want...)
	}
}

// TestCores asks for all values of cores that no pattern has, or that show what a
// kind does alone.
func TestCores(t *testing.T) {
	a, e, none := coreSet("a"), coreEmpty(), coreNothing()
	option := coreAlternative(a, e)
	for _, x := range []struct {
		c    core.Core
		s    string
		want []string
	}{
		{none, "", nil},
		{none, "a", nil},
		{e, "", []string{"E"}},
		{e, "a", nil},
		{coreSet(""), "", nil},
		{coreSet(""), "a", nil},
		{coreSet("ab"), "a", []string{"61"}},
		{coreSet("ab"), "b", []string{"62"}},
		{coreSet("\x00\xff"), "\x00", []string{"00"}},
		{coreSet("\x00\xff"), "\xff", []string{"ff"}},
		{coreConcat(e, e), "", []string{"(E,E)"}},
		{coreConcat(e, a), "a", []string{"(E,61)"}},
		{coreConcat(a, e), "a", []string{"(61,E)"}},
		{coreConcat(a, none), "a", nil},
		{coreConcat(none, a), "a", nil},
		{coreConcat(coreConcat(a, a), a), "aaa", []string{"((61,61),61)"}},
		{coreAlternative(e, e), "", []string{"LE", "RE"}},
		{coreAlternative(e, a), "", []string{"LE"}},
		{coreAlternative(none, e), "", []string{"RE"}},
		{coreAlternative(a, none), "a", []string{"L61"}},
		{coreAlternative(none, none), "", nil},
		{coreAlternative(option, option), "", []string{"LRE", "RRE"}},
		{coreAlternative(option, option), "a", []string{"LL61", "RL61"}},
		{coreStar(none), "", []string{"[]"}},
		{coreStar(none), "a", nil},
		{coreStar(e), "", []string{"[]"}},
		{coreStar(e), "a", nil},
		{coreStar(coreSet("")), "", []string{"[]"}},
		{coreStar(coreAlternative(e, e)), "", []string{"[]"}},
		{coreStar(coreAlternative(e, a)), "aa", []string{"[R61,R61]"}},
		{coreStar(coreConcat(coreAlternative(e, e), a)), "a", []string{"[(LE,61)]", "[(RE,61)]"}},
		{coreStar(coreConcat(a, coreAlternative(e, e))), "a", []string{"[(61,LE)]", "[(61,RE)]"}},
		{coreStar(coreConcat(a, coreStar(e))), "aa", []string{"[(61,[]),(61,[])]"}},
		{coreStar(coreConcat(coreStar(e), a)), "a", []string{"[([],61)]"}},
		{coreStar(coreStar(e)), "", []string{"[]"}},
		{coreStar(coreStar(coreStar(a))), "a", []string{"[[[61]]]"}},
		{coreStar(coreConcat(option, coreStar(option))), "aa", []string{"[(L61,[L61])]", "[(L61,[]),(L61,[])]", "[(L61,[]),(RE,[L61])]", "[(RE,[L61,L61])]", "[(RE,[L61]),(L61,[])]", "[(RE,[L61]),(RE,[L61])]"}},
		{coreConcat(coreStar(none), a), "a", []string{"([],61)"}},
		{coreConcat(coreStar(a), none), "a", nil},
		{coreGroup(1, a), "a", []string{"<61>"}},
		{coreGroup(api.MaxGroups, e), "", []string{"<E>"}},
		{coreGroup(1, coreGroup(1, a)), "a", []string{"<<61>>"}},
		{coreGroup(1, none), "", nil},
		{coreRenewal(a), "a", []string{"61"}},
		{coreRenewal(e), "", []string{"E"}},
		{coreRenewal(coreRenewal(option)), "", []string{"RE"}},
		{coreRenewal(none), "", nil},
		{coreStar(coreRenewal(coreGroup(1, coreAlternative(a, a)))), "a", []string{"[<L61>]", "[<R61>]"}},
		{coreStar(coreGroup(1, coreRenewal(coreStar(a)))), "aa", []string{"[<[61,61]>]", "[<[61]>,<[61]>]"}},
		{coreStar(coreRenewal(coreGroup(1, option))), "a", []string{"[<L61>]"}},
	} {
		wantWays(t, x.c, x.s, x.want...)
	}
}

// TestAllBytes asks of each byte, of the set with it alone and of the set of all
// others.
func TestAllBytes(t *testing.T) {
	var s []byte
	for b := range 256 {
		one := core.Core{Kind: 2, Set: byteset.Of(byte(b))}
		others := core.Core{Kind: 2, Set: one.Set.Not()}
		here, beside := string([]byte{byte(b)}), string([]byte{byte(b + 1)})
		wantAll(t, one, here, []value.Value{letter(byte(b))})
		wantAll(t, one, beside, nil)
		wantAll(t, others, here, nil)
		wantAll(t, others, beside, []value.Value{letter(byte(b + 1))})
		wantAll(t, coreAlternative(others, one), here, []value.Value{right(letter(byte(b)))})
		s = append(s, byte(b))
	}
	wantAll(t, coreStar(core.Core{Kind: 2, Set: byteset.All()}), string(s), []value.Value{letters(string(s))})
}

// TestCount asks for the number of values with each most.
func TestCount(t *testing.T) {
	for _, x := range []struct {
		pattern, s string
		want       int
	}{
		{"a", "b", 0},
		{"a", "a", 1},
		{"(?:a*)*", "aaaaaaa", 64},
		{"(?:a|a)*", "aaaaaaaa", 256},
		{"(?:a*)(?:a*)(?:a*)", "aaaaaaaaaaaaa", 105},
	} {
		c := coreOf(t, x.pattern)
		for most := range x.want + 3 {
			if got := every.Count(c, []byte(x.s), most); got != min(x.want, most+1) {
				t.Errorf("Count of %s, %s and %d: %d, want %d", x.pattern, x.s, most, got, min(x.want, most+1))
			}
			if most < x.want {
				wantTooMany(t, c, x.s, most)
			}
		}
		l, err := every.All(c, []byte(x.s), x.want)
		if err != api.OK || len(l) != x.want {
			t.Errorf("All of %s and %s: %d, %v", x.pattern, x.s, len(l), err)
		}
		wantProper(t, c, x.s, l)
		wantAll(t, c, x.s, l)
	}
}
