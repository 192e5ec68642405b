package lang_test

import (
	"fmt"
	"math"
	"slices"
	"strings"
	"testing"

	"catchpole/core"
	"catchpole/lang"
)

// wantEnds asks where what c matches in s from from on ends, and for what hangs
// on that.
func wantEnds(t *testing.T, c core.Core, s string, from int, want []int) {
	t.Helper()
	if got := lang.Ends(c, []byte(s), from); !slices.Equal(got, want) {
		t.Errorf("Ends of %s in %q from %d: %v, want %v", show(c), short(s), from, got, want)
	}
	if from < 0 || from > len(s) {
		return
	}
	// Of a long string not each part is asked of, as large cores take their time.
	for i := len(s); i >= from; i -= 1 + len(s)/50 {
		if got := lang.Says(c, []byte(s[from:i])); got != slices.Contains(want, i) {
			t.Errorf("Says of %s and %q: %v", show(c), short(s[from:i]), got)
		}
	}
	if got := lang.Null(c); got != slices.Contains(want, from) {
		t.Errorf("Null of %s: %v", show(c), got)
	}
	if from < len(s) && len(want) > 1 && !lang.First(c).Has(s[from]) {
		t.Errorf("First of %s: %q", show(c), lang.First(c).List())
	}
}

func TestEnds(t *testing.T) {
	a, b, ab := set("a"), set("b"), set("ab")
	for _, x := range []struct {
		c    core.Core
		s    string
		from int
		want []int
	}{
		{nothing(), "", 0, nil},
		{nothing(), "aa", 1, nil},
		{empty(), "", 0, []int{0}},
		{empty(), "aa", 0, []int{0}},
		{empty(), "aa", 1, []int{1}},
		{a, "", 0, nil},
		{a, "a", 0, []int{1}},
		{a, "b", 0, nil},
		{a, "aa", 0, []int{1}},
		{a, "ba", 0, nil},
		{a, "ba", 1, []int{2}},
		{ab, "cba", 1, []int{2}},
		{ab, "cba", 0, nil},
		{set(""), "a", 0, nil},

		{concat(a, b), "ab", 0, []int{2}},
		{concat(a, b), "abb", 0, []int{2}},
		{concat(a, b), "ba", 0, nil},
		{concat(a, b), "aab", 0, nil},
		{concat(a, b), "aab", 1, []int{3}},
		{concat(a, b), "a", 0, nil},
		{concat(b, a), "ab", 0, nil},
		{concat(a, nothing()), "ab", 0, nil},
		{concat(nothing(), a), "ab", 0, nil},
		{concat(star(a), b), "aaab", 0, []int{4}},
		{concat(star(a), a), "aaab", 0, []int{1, 2, 3}},
		{concat(star(a), star(b)), "aabba", 0, []int{0, 1, 2, 3, 4}},
		{concat(star(b), star(a)), "aabba", 0, []int{0, 1, 2}},

		{alternative(a, b), "ab", 0, []int{1}},
		{alternative(a, b), "ab", 1, []int{2}},
		{alternative(a, b), "c", 0, nil},
		{alternative(a, empty()), "ab", 0, []int{0, 1}},
		{alternative(empty(), a), "ab", 0, []int{0, 1}},
		{alternative(concat(a, b), a), "ab", 0, []int{1, 2}},
		{alternative(a, concat(a, b)), "ab", 0, []int{1, 2}},
		{alternative(concat(a, concat(b, a)), alternative(empty(), a)), "aba", 0, []int{0, 1, 3}},

		{star(nothing()), "aa", 0, []int{0}},
		{star(empty()), "aa", 1, []int{1}},
		{star(set("")), "aa", 2, []int{2}},
		{star(a), "", 0, []int{0}},
		{star(a), "aab", 0, []int{0, 1, 2}},
		{star(a), "aab", 1, []int{1, 2}},
		{star(a), "aab", 2, []int{2}},
		{star(a), "aab", 3, []int{3}},
		{star(a), "baa", 0, []int{0}},
		{star(concat(a, b)), "ababa", 0, []int{0, 2, 4}},
		{star(concat(a, b)), "ababa", 1, []int{1}},
		{star(concat(a, b)), "ababa", 2, []int{2, 4}},
		{star(alternative(concat(a, a), concat(a, concat(a, a)))), "aaaaaaa", 0, []int{0, 2, 3, 4, 5, 6, 7}},
		{star(alternative(concat(a, a), concat(a, concat(a, a)))), "aaaaaaa", 5, []int{5, 7}},

		{group(1, a), "ab", 0, []int{1}},
		{group(1, star(a)), "aab", 1, []int{1, 2}},
		{renewal(a), "ab", 0, []int{1}},
		{renewal(star(a)), "aab", 0, []int{0, 1, 2}},
		{concat(group(1, a), renewal(group(1, a))), "aaa", 0, []int{2}},
	} {
		for _, c := range alike(x.c) {
			wantEnds(t, c, x.s, x.from, x.want)
		}
	}
}

// TestEndsOnce asks that what is matched in several ways is told once.
func TestEndsOnce(t *testing.T) {
	a := set("a")
	two := alternative(a, concat(a, a))
	for _, x := range []struct {
		c    core.Core
		want []int
	}{
		{alternative(a, a), []int{1}},
		{alternative(star(a), star(a)), []int{0, 1, 2, 3, 4}},
		{concat(star(a), star(a)), []int{0, 1, 2, 3, 4}},
		{concat(star(a), concat(star(a), star(a))), []int{0, 1, 2, 3, 4}},
		{concat(optional(a), optional(a)), []int{0, 1, 2}},
		{concat(alternative(a, empty()), alternative(empty(), a)), []int{0, 1, 2}},
		{concat(two, two), []int{2, 3, 4}},
		{star(two), []int{0, 1, 2, 3, 4}},
		{star(concat(star(a), star(a))), []int{0, 1, 2, 3, 4}},
		{alternative(empty(), alternative(empty(), empty())), []int{0}},
		{concat(alternative(empty(), empty()), alternative(empty(), star(empty()))), []int{0}},
		{alternative(concat(a, concat(a, a)), concat(concat(a, a), a)), []int{3}},
		{alternative(concat(a, concat(a, a)), alternative(a, concat(a, concat(a, a)))), []int{1, 3}},
	} {
		wantEnds(t, x.c, "aaaa", 0, x.want)
		wantEnds(t, x.c, "aaaab", 0, x.want)
	}
}

// TestEndsAscend asks for the order where the longest one is what a core tries
// first, or last, or neither.
func TestEndsAscend(t *testing.T) {
	a := set("a")
	three := concat(a, concat(a, a))
	one, five := a, concat(concat(a, a), three)
	for _, c := range []core.Core{
		alternative(one, alternative(three, five)),
		alternative(one, alternative(five, three)),
		alternative(three, alternative(one, five)),
		alternative(three, alternative(five, one)),
		alternative(five, alternative(one, three)),
		alternative(five, alternative(three, one)),
		alternative(alternative(five, one), three),
	} {
		wantEnds(t, c, "aaaaaaa", 0, []int{1, 3, 5})
		wantEnds(t, c, "aaaaaaa", 1, []int{2, 4, 6})
		wantEnds(t, c, "aaaaaaa", 3, []int{4, 6})
		wantEnds(t, c, "aaaaaaa", 7, nil)
		wantEnds(t, optional(c), "aaaaaaa", 2, []int{2, 3, 5, 7})
	}
}

// TestStarsOfTheEmptyString asks of stars whose element matches it, and of stars
// within stars.
func TestStarsOfTheEmptyString(t *testing.T) {
	a, b := set("a"), set("b")
	for _, c := range []core.Core{
		star(a),
		star(optional(a)),
		star(alternative(empty(), a)),
		star(star(a)),
		star(star(star(a))),
		star(renewal(star(group(1, star(a))))),
		star(concat(star(a), optional(a))),
		star(concat(optional(a), star(a))),
		star(concat(star(a), star(star(a)))),
		star(alternative(star(a), star(empty()))),
		star(concat(star(nothing()), a)),
		star(concat(a, star(nothing()))),
	} {
		wantEnds(t, c, "aaba", 0, []int{0, 1, 2})
		wantEnds(t, c, "aaba", 1, []int{1, 2})
		wantEnds(t, c, "aaba", 2, []int{2})
		wantEnds(t, c, "aaba", 3, []int{3, 4})
		wantEnds(t, c, "aaba", 4, []int{4})
		wantEnds(t, concat(c, b), "aaba", 0, []int{3})
		wantEnds(t, concat(c, b), "aaba", 3, nil)
		wantEnds(t, concat(b, c), "aaba", 2, []int{3, 4})
		wantEnds(t, star(concat(c, b)), "aaba", 0, []int{0, 3})
		wantEnds(t, star(concat(b, c)), "aaba", 2, []int{2, 3, 4})
		wantEnds(t, star(alternative(c, b)), "aaba", 0, []int{0, 1, 2, 3, 4})
	}
	wantEnds(t, star(concat(star(concat(star(a), b)), set("c"))), "aabbcabccb", 0, []int{0, 5, 8, 9})
	wantEnds(t, star(star(empty())), "ab", 1, []int{1})
	wantEnds(t, star(star(nothing())), "ab", 2, []int{2})
}

// TestFrom asks of each place where a match may begin, and of others.
func TestFrom(t *testing.T) {
	a, b := set("a"), set("b")
	far := []int{-1, -2, -3, -256, -1 << 32, math.MinInt, math.MinInt + 1, math.MaxInt, math.MaxInt - 1, 1 << 32, 1<<32 + 1, 257, 256}
	for _, s := range []string{"", "a", "b", "aab", "abab", strings.Repeat("a", 40)} {
		for _, c := range append(kinds(), optional(b), star(alternative(a, b)), concat(star(a), star(b)), star(empty())) {
			for _, from := range append(far, len(s)+1, len(s)+2, -len(s)-1) {
				wantEnds(t, c, s, from, nil)
			}
			for from := range len(s) + 1 {
				// What lies ahead of from is of no importance.
				var want []int
				for _, i := range lang.Ends(c, []byte(s[from:]), 0) {
					want = append(want, from+i)
				}
				wantEnds(t, c, s, from, want)
			}
			var want []int
			if lang.Null(c) {
				want = []int{len(s)}
			}
			wantEnds(t, c, s, len(s), want)
		}
	}
}

// TestSays asks that a string is matched as a whole.
func TestSays(t *testing.T) {
	for _, x := range []struct {
		pattern string
		yes, no []string
	}{
		{"a", []string{"a"}, []string{"", "b", "aa", "ab", "ba"}},
		{"ab", []string{"ab"}, []string{"", "a", "b", "ba", "aba", "abab"}},
		{"a|ab", []string{"a", "ab"}, []string{"", "b", "aa", "abb", "aba"}},
		{"ab|a", []string{"a", "ab"}, []string{"", "b", "aa", "abb", "aba"}},
		{"(a|ab)(c|bcd)(d*)", []string{"ac", "abc", "abcd", "acddd", "abcdd", "abbcd"}, []string{"", "a", "ab", "abb", "abcdc", "acb", "c"}},
		{"a*", []string{"", "a", "aa", "aaaaaaaa"}, []string{"b", "ab", "ba", "aab", "aba"}},
		{"a+", []string{"a", "aa", "aaaaaaaa"}, []string{"", "b", "ab", "ba"}},
		{"a?", []string{"", "a"}, []string{"aa", "b"}},
		{"a{2}", []string{"aa"}, []string{"", "a", "aaa", "ab"}},
		{"a{2,4}", []string{"aa", "aaa", "aaaa"}, []string{"", "a", "aaaaa"}},
		{"a{2,}", []string{"aa", "aaa", "aaaaaaa"}, []string{"", "a", "aab"}},
		{"a{0}", []string{""}, []string{"a"}},
		{"(a|b)*abb", []string{"abb", "aabb", "babb", "abbabb"}, []string{"", "ab", "abba", "abbb"}},
		{"(?:(a*)*b)*", []string{"", "b", "ab", "bb", "aabab"}, []string{"a", "ba", "aaba"}},
		{".", []string{"a", "\x00", "\n", "\xff"}, []string{"", "aa"}},
		{"[^a]+", []string{"b", "\xffb\x00"}, []string{"", "a", "ba", "ab", "bab"}},
		{"[[:digit:]]+(?:\\.[[:digit:]]+)?", []string{"0", "3.14", "10.0"}, []string{"", ".", "1.", ".5", "1.2.3"}},
	} {
		for _, c := range alike(ofPattern(t, x.pattern)) {
			for _, s := range x.yes {
				if !lang.Says(c, []byte(s)) {
					t.Errorf("Says of %s, which is like %s, and %q: false", show(c), x.pattern, s)
				}
			}
			for _, s := range x.no {
				if lang.Says(c, []byte(s)) {
					t.Errorf("Says of %s, which is like %s, and %q: true", show(c), x.pattern, s)
				}
			}
		}
	}
}

// TestEmptyStrings asks R4: a nil list of bytes and an empty one are equivalent.
func TestEmptyStrings(t *testing.T) {
	for _, c := range append(kinds(), optional(set("a")), star(nothing())) {
		for _, s := range [][]byte{nil, {}, make([]byte, 0, 5), []byte("abc")[3:]} {
			if got := lang.Says(c, s); got != lang.Null(c) {
				t.Errorf("Says of %s and the empty string: %v", show(c), got)
			}
			var want []int
			if lang.Null(c) {
				want = []int{0}
			}
			if got := lang.Ends(c, s, 0); !slices.Equal(got, want) {
				t.Errorf("Ends of %s in the empty string: %v, want %v", show(c), got, want)
			}
			if got := lang.Ends(c, s, 1); len(got) != 0 {
				t.Errorf("Ends of %s in the empty string from 1: %v", show(c), got)
			}
		}
	}
}

func ExampleEnds() {
	fmt.Println(lang.Ends(star(set("a")), []byte("aab"), 0))
	// Output: [0 1 2]
}
