package every_test

import (
	"fmt"
	"slices"
	"strings"
	"testing"

	"catchpole/api"
	"catchpole/byteset"
	"catchpole/core"
	"catchpole/every"
)

// stringsIn are the strings of l.
func stringsIn(l [][]byte) []string {
	var all []string
	for _, s := range l {
		all = append(all, string(s))
	}
	return all
}

// wantTexts asks for all strings of c of at most n of the bytes, which are those
// in that order, with each most that may make a difference.
func wantTexts(t *testing.T, c core.Core, bytes string, n int, want ...string) {
	t.Helper()
	count := len(want)
	for _, most := range []int{count, count + 1, count + 100, api.MaxEvery} {
		if most < count || most > api.MaxEvery {
			continue
		}
		got, err := every.Texts(c, []byte(bytes), n, most)
		if err != api.OK || !slices.Equal(stringsIn(got), want) {
			t.Errorf("Texts of %s, %q, %d and %d: %s, %v, want %s", show(c), bytes, n, most, cut(fmt.Sprintf("%q", got)), err, cut(fmt.Sprintf("%q", want)))
		}
	}
	for _, most := range []int{0, 1, count / 2, count - 2, count - 1} {
		if 0 <= most && most < count {
			wantTooManyTexts(t, c, bytes, n, most)
		}
	}
}

// wantTooManyTexts asks of strings of which there are more than most.
func wantTooManyTexts(t *testing.T, c core.Core, bytes string, n, most int) {
	t.Helper()
	if got, err := every.Texts(c, []byte(bytes), n, most); err != api.EFULL || len(got) > 0 {
		t.Errorf("Texts of %s, %q, %d and %d: %d strings, %v, want %v", show(c), bytes, n, most, len(got), err, api.EFULL)
	}
}

func TestTexts(t *testing.T) {
	for _, x := range []struct {
		pattern, bytes string
		n              int
		want           []string
	}{
		{"a", "a", 0, nil},
		{"a", "a", 1, []string{"a"}},
		{"a", "a", 8, []string{"a"}},
		{"a", "b", 8, nil},
		{"a", "", 8, nil},
		{"a{0}", "", 0, []string{""}},
		{"a{0}", "", 8, []string{""}},
		{"a{0}", "ab", 8, []string{""}},
		{"a*", "", 8, []string{""}},
		{"a*", "a", 0, []string{""}},
		{"a*", "a", 3, []string{"", "a", "aa", "aaa"}},
		{"a*", "ba", 2, []string{"", "a", "aa"}},
		{"a+", "ab", 2, []string{"a", "aa"}},
		{"a?", "ab", 8, []string{"", "a"}},
		{"a{8}", "ab", 8, []string{"aaaaaaaa"}},
		{"a{8}", "ab", 7, nil},
		{"a{9}", "ab", 8, nil},
		{"a{2,4}", "a", 3, []string{"aa", "aaa"}},
		{"b|a", "ab", 1, []string{"a", "b"}},
		{"b|a", "ba", 1, []string{"b", "a"}},
		{"a|ab|b|ba", "ba", 2, []string{"b", "a", "ba", "ab"}},
		{".", "zayb", 1, []string{"z", "a", "y", "b"}},
		{"[^a]", "cab", 1, []string{"c", "b"}},
		{"[a-c]", "xcyaz", 1, []string{"c", "a"}},
		{"(?:.)*", "10", 2, []string{"", "1", "0", "11", "10", "01", "00"}},
		{"(?:.)*", "\xff\x00", 2, []string{"", "\xff", "\x00", "\xff\xff", "\xff\x00", "\x00\xff", "\x00\x00"}},
		{".{2}", "cab", 2, []string{"cc", "ca", "cb", "ac", "aa", "ab", "bc", "ba", "bb"}},
		{"(?:a|b)*abb?", "ba", 4, []string{"ab", "bab", "abb", "aab", "bbab", "babb", "baab", "abab", "aabb", "aaab"}},
		{"(a|ab)(c|bcd)(d*)", "abcd", 4, []string{"ac", "abc", "acd", "abcd", "acdd"}},
		{"(a|ab)(c|bcd)(d*)", "dcba", 5, []string{"ac", "acd", "abc", "acdd", "abcd", "acddd", "abcdd", "abbcd"}},
		{"ab|cd", "abc", 8, []string{"ab"}},
		{"aab|b", "ba", 8, []string{"b", "aab"}},
		{"aaaa|b", "ab", 3, []string{"b"}},
		{"(?:aa|aaa)*", "a", 8, []string{"", "aa", "aaa", "aaaa", "aaaaa", "aaaaaa", "aaaaaaa", "aaaaaaaa"}},
		{"(?:a*)*", "a", 2, []string{"", "a", "aa"}},
		{"(?:a?)*", "ab", 2, []string{"", "a", "aa"}},
		{"(?:a|a)*|a*|(a)", "a", 3, []string{"", "a", "aa", "aaa"}},
		{"(?:(?:a|b)*|(?:b|a)*)*", "ab", 2, []string{"", "a", "b", "aa", "ab", "ba", "bb"}},
		{"(?:a{0}|a{0})(?:a{0}|a)", "a", 8, []string{"", "a"}},
	} {
		wantTexts(t, coreOf(t, x.pattern), x.bytes, x.n, x.want...)
	}
}

// TestTextsOfCores asks of cores that no pattern has.
func TestTextsOfCores(t *testing.T) {
	a, b, e, none := coreSet("a"), coreSet("b"), coreEmpty(), coreNothing()
	for _, x := range []struct {
		c    core.Core
		n    int
		want []string
	}{
		{none, 8, nil},
		{e, 8, []string{""}},
		{coreSet(""), 8, nil},
		{coreConcat(a, none), 8, nil},
		{coreConcat(none, a), 8, nil},
		{coreConcat(coreStar(a), none), 8, nil},
		{coreConcat(coreStar(none), a), 8, []string{"a"}},
		{coreAlternative(none, a), 8, []string{"a"}},
		{coreAlternative(e, none), 8, []string{""}},
		{coreStar(none), 8, []string{""}},
		{coreStar(e), 8, []string{""}},
		{coreStar(coreStar(e)), 8, []string{""}},
		{coreStar(coreSet("")), 8, []string{""}},
		{coreStar(coreAlternative(e, coreConcat(a, b))), 8, []string{"", "ab", "abab", "ababab", "abababab"}},
		{coreStar(coreConcat(coreAlternative(a, e), coreAlternative(b, coreConcat(b, none)))), 2, []string{"", "b", "bb", "ab"}},
		{coreGroup(1, coreStar(coreConcat(a, coreConcat(a, a)))), 8, []string{"", "aaa", "aaaaaa"}},
		{coreRenewal(coreGroup(2, coreAlternative(a, coreRenewal(e)))), 8, []string{"", "a"}},
	} {
		wantTexts(t, x.c, "ba", x.n, x.want...)
	}
}

// TestLengths asks for each number of bytes that may be asked for.
func TestLengths(t *testing.T) {
	var all, even []string
	for n := range 9 {
		all = append(all, strings.Repeat("a", n))
		if n%2 == 0 {
			even = append(even, strings.Repeat("a", n))
		}
		wantTexts(t, coreOf(t, "a*"), "a", n, all...)
		wantTexts(t, coreOf(t, "(?:aa)*"), "a", n, even...)
	}
	for n := range 9 {
		two := 1<<(n+1) - 1
		if got, err := every.Texts(coreOf(t, "(?:.)*"), []byte("ba"), n, two); err != api.OK || len(got) != two {
			t.Errorf("Texts of two bytes and %d: %d, %v, want %d", n, len(got), err, two)
		}
		wantTooManyTexts(t, coreOf(t, "(?:.)*"), "ba", n, two-1)
	}
}

// TestSixteenBytes asks for as many bytes as there may be, in any order, whether
// the core has them or not.
func TestSixteenBytes(t *testing.T) {
	const bytes = "pq\x00\xffzyxa b1c9/\x80\n"
	all := core.Core{Kind: 2, Set: byteset.All()}
	var one, two []string
	for _, b := range []byte(bytes) {
		one = append(one, string([]byte{b}))
	}
	for _, b := range one {
		for _, c := range one {
			two = append(two, b+c)
		}
	}
	wantTexts(t, all, bytes, 8, one...)
	wantTexts(t, coreConcat(all, all), bytes, 8, two...)
	wantTexts(t, coreStar(all), bytes, 2, slices.Concat([]string{""}, one, two)...)
	wantTexts(t, coreStar(coreSet("\xff\n")), bytes, 2, "", "\xff", "\n", "\xff\xff", "\xff\n", "\n\xff", "\n\n")
	wantTexts(t, coreSet("de"), bytes, 8)
	wantTooManyTexts(t, coreStar(all), bytes, 8, api.MaxEvery)
}
