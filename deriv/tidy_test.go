package deriv_test

import (
	"testing"

	"catchpole/byteset"
	"catchpole/core"
	"catchpole/deriv"
)

// TestTidyOfEachKind asks for each rule of the chapter alone, and for what no rule
// is about.
func TestTidyOfEachKind(t *testing.T) {
	a, b, none, e := set("a"), set("b"), nothing(), empty()
	for _, x := range []struct{ c, want core.Core }{
		{none, none},
		{e, e},
		{a, a},
		{set(""), none},
		{core.Core{Kind: 2, Set: byteset.All()}, core.Core{Kind: 2, Set: byteset.All()}},
		{core.Core{Kind: 2, Set: byteset.Of(0)}, core.Core{Kind: 2, Set: byteset.Of(0)}},
		{core.Core{Kind: 2, Set: byteset.Of(255)}, core.Core{Kind: 2, Set: byteset.Of(255)}},

		{concat(a, b), concat(a, b)},
		{concat(b, a), concat(b, a)},
		{concat(a, a), concat(a, a)},
		{concat(none, a), none},
		{concat(a, none), none},
		{concat(none, none), none},
		{concat(e, a), a},
		{concat(a, e), a},
		{concat(e, e), e},
		{concat(none, e), none},
		{concat(e, none), none},
		{concat(a, star(a)), concat(a, star(a))},

		{alternative(a, b), alternative(a, b)},
		{alternative(b, a), alternative(b, a)},
		{alternative(none, a), a},
		{alternative(a, none), a},
		{alternative(none, none), none},
		{alternative(none, e), e},
		{alternative(e, none), e},
		{alternative(a, a), a},
		{alternative(e, e), e},
		{alternative(e, a), alternative(e, a)},
		{alternative(a, e), alternative(a, e)},
		{alternative(star(a), e), alternative(star(a), e)},
		{alternative(a, alternative(b, a)), alternative(a, alternative(b, a))},
		{alternative(alternative(a, b), alternative(b, a)), alternative(alternative(a, b), alternative(b, a))},
		{alternative(a, set("ab")), alternative(a, set("ab"))},

		{star(a), star(a)},
		{star(none), e},
		{star(e), e},
		{star(star(a)), star(a)},
		{star(optional(a)), star(optional(a))},
		{star(concat(star(a), star(a))), star(concat(star(a), star(a)))},

		{group(1, a), a},
		{group(32, none), none},
		{group(1, e), e},
		{group(1, concat(a, b)), concat(a, b)},
		{renewal(a), a},
		{renewal(none), none},
		{renewal(e), e},
		{renewal(star(a)), star(a)},
	} {
		wantTidy(t, x.c, x.want)
	}
}

// TestTidyFromWithin asks that what a rule makes of an element counts for the
// rules of what is around it.
func TestTidyFromWithin(t *testing.T) {
	a, b, no, e := set("a"), set("b"), set(""), empty()
	for _, x := range []struct{ c, want core.Core }{
		{concat(no, a), nothing()},
		{concat(a, group(1, no)), nothing()},
		{concat(star(no), a), a},
		{concat(a, star(concat(a, no))), a},
		{concat(concat(e, e), group(1, e)), e},
		{concat(a, concat(b, alternative(no, no))), nothing()},
		{concat(star(star(e)), star(e)), e},

		{alternative(no, a), a},
		{alternative(group(1, no), renewal(a)), a},
		{alternative(group(1, a), group(2, a)), a},
		{alternative(group(1, a), renewal(a)), a},
		{alternative(star(a), star(star(a))), star(a)},
		{alternative(star(no), e), e},
		{alternative(concat(e, a), concat(a, e)), a},
		{alternative(alternative(a, no), alternative(no, a)), a},
		{alternative(alternative(a, a), alternative(a, a)), a},
		{alternative(alternative(a, b), alternative(group(1, a), renewal(b))), alternative(a, b)},
		{alternative(alternative(a, b), alternative(b, a)), alternative(alternative(a, b), alternative(b, a))},
		{alternative(a, alternative(concat(a, no), b)), alternative(a, b)},
		{alternative(concat(a, concat(a, a)), concat(concat(a, a), a)), alternative(concat(a, concat(a, a)), concat(concat(a, a), a))},

		{star(no), e},
		{star(group(1, no)), e},
		{star(concat(a, no)), e},
		{star(star(star(star(a)))), star(a)},
		{star(star(no)), e},
		{star(star(e)), e},
		{star(group(1, star(a))), star(a)},
		{star(renewal(group(1, renewal(star(renewal(a)))))), star(a)},
		{star(concat(e, star(a))), star(a)},
		{star(alternative(star(a), no)), star(a)},
		{star(alternative(star(a), group(1, star(a)))), star(a)},
		{star(alternative(e, e)), e},

		{group(1, group(2, group(3, a))), a},
		{renewal(renewal(group(1, renewal(a)))), a},
		{group(1, concat(group(2, a), renewal(group(2, b)))), concat(a, b)},
		{renewal(star(group(1, no))), e},
		{concat(group(1, star(group(2, a))), alternative(group(3, b), group(4, e))), concat(star(a), optional(b))},
	} {
		wantTidy(t, x.c, x.want)
	}
}

// TestTidyOfPatterns asks for what patterns become.
func TestTidyOfPatterns(t *testing.T) {
	for _, x := range []struct{ pattern, want string }{
		{"(a)", "<61>"},
		{"((a)(b))", "(<61>.<62>)"},
		{"a{3}", "(<61>.(<61>.<61>))"},
		{"a{0}", "1"},
		{"a{0}b", "<62>"},
		{"(?:a{0})*", "1"},
		{"(?:a*)*", "(<61>*)"},
		{"(?:a*)+", "((<61>*).(<61>*))"},
		{"a|a|a", "<61>"},
		{"a|b|a", "(<61>|(<62>|<61>))"},
		{"a{0,2}", "((<61>.(<61>|1))|1)"},
		{"(a|ab)(c|bcd)(d*)", "((<61>|(<61>.<62>)).((<63>|(<62>.(<63>.<64>))).(<64>*)))"},
	} {
		if got := deriv.Tidy(coreOf(t, x.pattern)); core.Text(got) != x.want {
			t.Errorf("Tidy of %s: %s, want %s", x.pattern, show(got), x.want)
		}
	}
}

// TestTidyOfLists asks of empty lists, which are the same as nil.
func TestTidyOfLists(t *testing.T) {
	none := []core.Core{}
	wantTidy(t, core.Core{L: none}, nothing())
	wantTidy(t, core.Core{Kind: 1, L: none}, empty())
	wantTidy(t, core.Core{Kind: 2, Set: byteset.Of('a'), L: none}, set("a"))
	wantTidy(t, alternative(core.Core{Kind: 1, L: none}, empty()), empty())
	wantTidy(t, alternative(set("a"), core.Core{Kind: 2, Set: byteset.Of('a'), L: none}), set("a"))
	wantBy(t, core.Core{Kind: 1, L: none}, 'a', nothing())
	wantBy(t, concat(core.Core{Kind: 1, L: none}, core.Core{Kind: 2, Set: byteset.Of('a'), L: none}), 'a', empty())
}
