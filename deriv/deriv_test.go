package deriv_test

import (
	"fmt"
	"testing"

	"catchpole/api"
	"catchpole/byteset"
	"catchpole/core"
	"catchpole/deriv"
	"catchpole/parse"
)

// The functions with the signatures that the chapter lists: others would not
// build.
var (
	_ func(core.Core, byte) (core.Core, api.Errno)   = deriv.By
	_ func(core.Core, []byte) (core.Core, api.Errno) = deriv.Word
	_ func(core.Core) core.Core                      = deriv.Tidy
)

func nothing() core.Core { return core.Core{} }

func empty() core.Core { return core.Core{Kind: 1} }

func set(text string) core.Core {
	return core.Core{Kind: 2, Set: byteset.Of([]byte(text)...)}
}

func concat(l ...core.Core) core.Core { return core.Core{Kind: 3, L: l} }

func alternative(l ...core.Core) core.Core { return core.Core{Kind: 4, L: l} }

func star(l ...core.Core) core.Core { return core.Core{Kind: 5, L: l} }

func group(number int, l ...core.Core) core.Core { return core.Core{Kind: 6, N: number, L: l} }

func renewal(l ...core.Core) core.Core { return core.Core{Kind: 7, L: l} }

func optional(c core.Core) core.Core { return alternative(c, empty()) }

// coreOf is the core of a pattern.
func coreOf(t *testing.T, pattern string) core.Core {
	t.Helper()
	p, _, err := parse.Of(pattern)
	if err != api.OK {
		t.Fatalf("%s: %v", pattern, err)
	}
	c, err := core.Of(p.Root)
	if err != api.OK {
		t.Fatalf("%s: %v", pattern, err)
	}
	return c
}

// cut is the beginning of a long text.
func cut(text string) string { return text[:min(len(text), 200)] }

// show is a text of a core, which need not be valid.
func show(c core.Core) string {
	if core.Good(c) {
		return cut(core.Text(c))
	}
	return fmt.Sprintf("a wrong core of kind %d, of the number %d and with %d elements", c.Kind, c.N, len(c.L))
}

// isZero tells whether c is the zero value, as it is beside an error.
func isZero(c core.Core) bool {
	return c.Kind == 0 && c.Set == byteset.Set{} && c.N == 0 && len(c.L) == 0
}

// wantBy asks for a derivative, also as that of a word of one byte.
func wantBy(t *testing.T, c core.Core, b byte, want core.Core) {
	t.Helper()
	if got, err := deriv.By(c, b); err != api.OK || !core.Same(got, want) {
		t.Errorf("By of %s and %q: %s, %v, want %s", show(c), b, show(got), err, show(want))
	}
	if got, err := deriv.Word(c, []byte{b}); err != api.OK || !core.Same(got, want) {
		t.Errorf("Word of %s and %q: %s, %v, want %s", show(c), b, show(got), err, show(want))
	}
}

// wantTidy asks what a core becomes, which then remains as it is.
func wantTidy(t *testing.T, c, want core.Core) {
	t.Helper()
	if got := deriv.Tidy(c); !core.Same(got, want) {
		t.Errorf("Tidy of %s: %s, want %s", show(c), show(got), show(want))
	}
	if got := deriv.Tidy(want); !core.Same(got, want) {
		t.Errorf("Tidy of %s: %s", show(want), show(got))
	}
	for _, s := range [][]byte{nil, {}} {
		if got, err := deriv.Word(c, s); err != api.OK || !core.Same(got, want) {
			t.Errorf("Word of %s and no byte: %s, %v, want %s", show(c), show(got), err, show(want))
		}
	}
}

// TestExample asks what the chapter has as an example.
func TestExample(t *testing.T) {
	wantBy(t, coreOf(t, "ab"), 'a', set("b"))
}

// TestByOfEachKind asks for the derivatives that the chapter names kind by kind.
func TestByOfEachKind(t *testing.T) {
	a, b, c, ab, none, e := set("a"), set("b"), set("c"), set("ab"), nothing(), empty()
	for _, x := range []struct{ c, want core.Core }{
		{none, none},
		{e, none},
		{a, e},
		{ab, e},
		{b, none},
		{set(""), none},
		{core.Core{Kind: 2, Set: byteset.All()}, e},
		{core.Core{Kind: 2, Set: a.Set.Not()}, none},

		{concat(a, b), b},
		{concat(b, a), none},
		{concat(a, a), a},
		{concat(concat(a, b), c), concat(b, c)},
		{concat(a, concat(b, c)), concat(b, c)},
		{concat(a, none), none},
		{concat(none, a), none},
		{concat(a, e), e},
		{concat(e, a), e},
		{concat(e, concat(a, b)), b},
		{concat(e, e), none},
		{concat(star(b), a), e},
		{concat(star(a), b), concat(star(a), b)},
		{concat(star(a), a), alternative(concat(star(a), a), e)},
		{concat(star(a), concat(a, c)), alternative(concat(star(a), concat(a, c)), c)},
		{concat(optional(a), concat(a, b)), alternative(concat(a, b), b)},
		{concat(optional(concat(a, c)), concat(a, b)), alternative(concat(c, concat(a, b)), b)},
		{concat(a, star(a)), star(a)},
		{concat(optional(a), star(a)), star(a)},

		{alternative(a, a), e},
		{alternative(a, b), e},
		{alternative(b, a), e},
		{alternative(b, c), none},
		{alternative(concat(a, b), concat(a, c)), alternative(b, c)},
		{alternative(concat(a, c), concat(a, b)), alternative(c, b)},
		{alternative(concat(a, c), concat(b, c)), c},
		{alternative(concat(b, c), concat(a, c)), c},
		{alternative(a, concat(a, b)), alternative(e, b)},
		{alternative(e, a), e},
		{alternative(none, a), e},

		{star(a), star(a)},
		{star(b), none},
		{star(none), none},
		{star(e), none},
		{star(ab), star(ab)},
		{star(concat(a, b)), concat(b, star(concat(a, b)))},
		{star(alternative(concat(a, b), c)), concat(b, star(alternative(concat(a, b), c)))},
		{star(optional(a)), star(optional(a))},
		{star(alternative(a, concat(a, b))), concat(alternative(e, b), star(alternative(a, concat(a, b))))},

		{group(1, a), e},
		{group(1, b), none},
		{group(3, concat(a, b)), b},
		{group(1, star(concat(a, b))), concat(b, star(concat(a, b)))},
		{renewal(a), e},
		{renewal(b), none},
		{renewal(concat(a, b)), b},
		{renewal(star(a)), star(a)},
		{group(1, renewal(group(2, concat(a, b)))), b},
	} {
		wantBy(t, x.c, 'a', x.want)
	}
}

// TestByTidiesAfterwards asks that the derivative is that of the core as it is,
// and that all of it is tidy, also what was not touched.
func TestByTidiesAfterwards(t *testing.T) {
	a, b, c, none, e := set("a"), set("b"), set("c"), nothing(), empty()
	aa := star(a)
	for _, x := range []struct{ c, want core.Core }{
		// Tidy of the whole would be a*, whose derivative is a* alone.
		{star(aa), concat(aa, aa)},
		{star(star(aa)), concat(concat(aa, aa), aa)},
		{star(group(1, aa)), concat(aa, aa)},
		{star(concat(e, aa)), concat(aa, aa)},
		{star(alternative(aa, aa)), concat(aa, aa)},
		{alternative(star(aa), aa), alternative(concat(aa, aa), aa)},
		{concat(star(aa), b), concat(concat(aa, aa), b)},

		{concat(a, group(1, b)), b},
		{concat(a, renewal(group(1, b))), b},
		{concat(a, set("")), none},
		{concat(a, concat(b, set(""))), none},
		{concat(a, star(none)), e},
		{concat(a, star(star(b))), star(b)},
		{concat(a, alternative(b, b)), b},
		{concat(a, alternative(group(1, b), group(2, b))), b},
		{concat(a, alternative(none, b)), b},
		{concat(a, concat(e, concat(b, e))), b},
		{star(group(2, concat(a, group(1, b)))), concat(b, star(concat(a, b)))},
		{star(alternative(concat(a, star(e)), set(""))), star(a)},
		{star(concat(a, set(""))), none},
		{alternative(concat(a, b), concat(group(1, a), renewal(b))), b},
		{alternative(concat(a, group(1, b)), concat(a, group(2, c))), alternative(b, c)},

		// An alternative of what a concatenation leaves is tidied with all that is
		// in it.
		{concat(star(b), concat(a, b)), b},
		{concat(optional(a), concat(a, set(""))), none},
		{concat(optional(concat(a, set(""))), concat(a, b)), b},
		{concat(optional(concat(a, e)), star(renewal(a))), aa},
	} {
		wantBy(t, x.c, 'a', x.want)
	}
}

// TestByOfPatterns asks for derivatives of patterns.
func TestByOfPatterns(t *testing.T) {
	for _, x := range []struct {
		pattern string
		b       byte
		want    string
	}{
		{"a", 'a', "1"},
		{"a", 'b', "0"},
		{"a{0}", 'a', "0"},
		{"abc", 'a', "(<62>.<63>)"},
		{"a{3}", 'a', "(<61>.<61>)"},
		{"a{2,}", 'a', "(<61>.(<61>*))"},
		{"a{1,3}", 'a', "((<61>.(<61>|1))|1)"},
		{"a+", 'a', "(<61>*)"},
		{"a?", 'a', "1"},
		{"a?", 'b', "0"},
		{"a?b", 'b', "1"},
		{"a?b", 'a', "<62>"},
		{"a?b?c", 'a', "((<62>|1).<63>)"},
		{"a?b?c", 'b', "<63>"},
		{"a?b?c", 'c', "1"},
		{"a?b?c", 'd', "0"},
		{"(a)|(b)|(ac)", 'a', "(1|<63>)"},
		{"(a|ab)(c|bcd)(d*)", 'a', "((1|<62>).((<63>|(<62>.(<63>.<64>))).(<64>*)))"},
		{"(?:a|ab)*", 'a', "((1|<62>).((<61>|(<61>.<62>))*))"},
		{"(?:a*b)*", 'b', "(((<61>*).<62>)*)"},
		{"(?:a*b)*", 'a', "(((<61>*).<62>).(((<61>*).<62>)*))"},
		{"[^a]x", 'a', "0"},
		{"[^a]x", 0, "<78>"},
		{".x", 255, "<78>"},
	} {
		got, err := deriv.By(coreOf(t, x.pattern), x.b)
		if err != api.OK || core.Text(got) != x.want {
			t.Errorf("By of %s and %q: %s, %v, want %s", x.pattern, x.b, show(got), err, x.want)
		}
	}
}

// TestByOfEachByte asks for the derivative by each byte of the set of any one byte
// and of all others.
func TestByOfEachByte(t *testing.T) {
	for in := range 256 {
		one := core.Core{Kind: 2, Set: byteset.Of(byte(in))}
		others := core.Core{Kind: 2, Set: one.Set.Not()}
		for b := range 256 {
			x, y := nothing(), empty()
			if b == in {
				x, y = empty(), nothing()
			}
			wantBy(t, one, byte(b), x)
			wantBy(t, others, byte(b), y)
		}
	}
}

// TestWord asks for the derivatives by several bytes in order.
func TestWord(t *testing.T) {
	for _, x := range []struct{ pattern, s, want string }{
		{"abc", "", "(<61>.(<62>.<63>))"},
		{"abc", "a", "(<62>.<63>)"},
		{"abc", "ab", "<63>"},
		{"abc", "abc", "1"},
		{"abc", "abcd", "0"},
		{"abc", "abcda", "0"},
		{"abc", "ba", "0"},
		{"abc", "cba", "0"},
		{"a*", "aaaa", "(<61>*)"},
		{"a*", "aaba", "0"},
		{"(?:ab)*", "ab", "((<61>.<62>)*)"},
		{"(?:ab)*", "aba", "(<62>.((<61>.<62>)*))"},
		{"(?:ab)*", "aa", "0"},
		{"(?:a|ab)(?:b|c)", "a", "((1|<62>).(<62>|<63>))"},
		{"(?:a|ab)(?:b|c)", "ab", "((<62>|<63>)|1)"},
		{"(?:a|ab)(?:b|c)", "abb", "1"},
		{"(?:a|b)*abb", "ab", "((((<61>|<62>)*).(<61>.(<62>.<62>)))|<62>)"},
		{"(a)(b)", "", "(<61>.<62>)"},
		{"(?:(a)|(a))*", "", "(<61>*)"},
		{"a{2}", "", "(<61>.<61>)"},
		{"a{0}", "", "1"},
	} {
		got, err := deriv.Word(coreOf(t, x.pattern), []byte(x.s))
		if err != api.OK || core.Text(got) != x.want {
			t.Errorf("Word of %s and %q: %s, %v, want %s", x.pattern, x.s, show(got), err, x.want)
		}
	}
}

// TestWordIsNotTidiedFirst asks that the first derivative is that of the core as it
// is, and each other one that of what the one before left.
func TestWordIsNotTidiedFirst(t *testing.T) {
	a := star(set("a"))
	for _, x := range []struct {
		s    string
		want core.Core
	}{
		{"", a},
		{"a", concat(a, a)},
		{"aa", alternative(concat(a, a), a)},
		{"aaa", alternative(alternative(concat(a, a), a), a)},
		{"b", nothing()},
		{"ab", nothing()},
	} {
		got, err := deriv.Word(star(a), []byte(x.s))
		if err != api.OK || !core.Same(got, x.want) {
			t.Errorf("Word of %q: %s, %v, want %s", x.s, show(got), err, show(x.want))
		}
	}
}

// TestWordIsByOfEachByte asks the same of patterns, byte by byte.
func TestWordIsByOfEachByte(t *testing.T) {
	for _, pattern := range []string{"(a|ab)(c|bcd)(d*)", "(?:a|b)*abb", "((a*)*|b)*", "(?:a?){2,5}b", "[^b]*c{2,}", "(?:a{0}b?){3}"} {
		c := coreOf(t, pattern)
		for _, s := range []string{"abcd", "aabb", "bacc", "aaaa", "bbbbb", "dd\x00\xff"} {
			want, err := c, api.OK
			for i := range len(s) {
				want, err = deriv.By(want, s[i])
				if err != api.OK {
					t.Fatalf("By of %s and %q: %v", pattern, s[:i+1], err)
				}
				got, err := deriv.Word(c, []byte(s[:i+1]))
				if err != api.OK || !core.Same(got, want) {
					t.Errorf("Word of %s and %q: %s, %v, want %s", pattern, s[:i+1], show(got), err, show(want))
				}
			}
		}
	}
}
