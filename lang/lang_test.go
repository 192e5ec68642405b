package lang_test

import (
	"fmt"
	"slices"
	"strings"
	"testing"

	"catchpole/api"
	"catchpole/byteset"
	"catchpole/core"
	"catchpole/lang"
	"catchpole/parse"
)

// The functions with the signatures that the chapter lists: others would not
// build.
var (
	_ func(core.Core) bool               = lang.Null
	_ func(core.Core, []byte, int) []int = lang.Ends
	_ func(core.Core, []byte) bool       = lang.Says
	_ func(core.Core) byteset.Set        = lang.First
)

func of(text string) byteset.Set { return byteset.Of([]byte(text)...) }

func nothing() core.Core { return core.Core{} }

func empty() core.Core { return core.Core{Kind: 1} }

func set(text string) core.Core { return core.Core{Kind: 2, Set: of(text)} }

func concat(l ...core.Core) core.Core { return core.Core{Kind: 3, L: l} }

func alternative(l ...core.Core) core.Core { return core.Core{Kind: 4, L: l} }

func star(l ...core.Core) core.Core { return core.Core{Kind: 5, L: l} }

func group(number int, l ...core.Core) core.Core { return core.Core{Kind: 6, N: number, L: l} }

func renewal(l ...core.Core) core.Core { return core.Core{Kind: 7, L: l} }

// optional is a core that matches what c matches, and the empty string.
func optional(c core.Core) core.Core { return alternative(c, empty()) }

// kinds has one valid core of each kind, with as few parts as may be.
func kinds() []core.Core {
	return []core.Core{
		nothing(),
		empty(),
		set("a"),
		concat(set("a"), set("b")),
		alternative(set("a"), set("b")),
		star(set("a")),
		group(1, set("a")),
		renewal(set("a")),
	}
}

// ofPattern is the core of a pattern that is written as text.
func ofPattern(t *testing.T, pattern string) core.Core {
	t.Helper()
	p, at, e := parse.Of(pattern)
	if e != api.OK {
		t.Fatalf("%q is no pattern: %d at %d", pattern, e, at)
	}
	c, e := core.Of(p.Root)
	if e != api.OK {
		t.Fatalf("%q has no core: %d", pattern, e)
	}
	return c
}

// show is a text of a core, or the beginning of a long one, also of one that is
// not valid.
func show(c core.Core) string {
	var b strings.Builder
	write(&b, c)
	return b.String()[:min(b.Len(), 150)]
}

// write writes a text of c, or the beginning of a long one.
func write(b *strings.Builder, c core.Core) {
	if b.Len() > 150 {
		return
	}
	fmt.Fprintf(b, "%d:%v:%d[", c.Kind, c.Set.Runs(), c.N)
	for _, x := range c.L {
		write(b, x)
	}
	b.WriteByte(']')
}

// short is the beginning of a long string.
func short(s string) string { return s[:min(len(s), 40)] }

// upTo is the list of the numbers from lo to hi.
func upTo(lo, hi int) []int {
	var l []int
	for i := lo; i <= hi; i++ {
		l = append(l, i)
	}
	return l
}

// alike are cores that match what c matches.
func alike(c core.Core) []core.Core {
	return []core.Core{
		c,
		group(1, c),
		group(api.MaxGroups, c),
		renewal(c),
		renewal(group(2, renewal(group(2, c)))),
		concat(c, empty()),
		concat(empty(), c),
		concat(renewal(empty()), group(3, c)),
		alternative(c, nothing()),
		alternative(nothing(), c),
		alternative(c, c),
		alternative(set(""), group(4, c)),
		alternative(concat(nothing(), star(c)), renewal(c)),
	}
}

// wantNull asks whether c matches the empty string, however that is asked.
func wantNull(t *testing.T, want bool, c core.Core) {
	t.Helper()
	for _, x := range alike(c) {
		if got := lang.Null(x); got != want {
			t.Errorf("Null of %s: %v", show(x), got)
		}
		if got := lang.Says(x, nil); got != want {
			t.Errorf("Says of %s and the empty string: %v", show(x), got)
		}
		for from := range 4 {
			if got := slices.Contains(lang.Ends(x, []byte("aba"), from), from); got != want {
				t.Errorf("Ends of %s from %d has %d: %v", show(x), from, from, got)
			}
		}
	}
}

// wantFirst asks for the first bytes of what c matches.
func wantFirst(t *testing.T, want string, c core.Core) {
	t.Helper()
	for _, x := range alike(c) {
		if got := lang.First(x); got != of(want) {
			t.Errorf("First of %s: %q, want %q", show(x), got.List(), want)
		}
	}
}

func TestNull(t *testing.T) {
	a, b := set("a"), set("b")
	for _, x := range []struct {
		c    core.Core
		want bool
	}{
		{nothing(), false},
		{empty(), true},
		{a, false},
		{set(""), false},
		{set("\x00"), false},
		{core.Core{Kind: 2, Set: byteset.All()}, false},

		{concat(a, b), false},
		{concat(empty(), b), false},
		{concat(a, empty()), false},
		{concat(empty(), empty()), true},
		{concat(nothing(), empty()), false},
		{concat(empty(), nothing()), false},
		{concat(nothing(), nothing()), false},
		{concat(star(a), nothing()), false},
		{concat(star(a), b), false},
		{concat(star(a), star(b)), true},
		{concat(optional(a), optional(b)), true},
		{concat(concat(empty(), star(a)), concat(optional(b), empty())), true},
		{concat(concat(empty(), star(a)), concat(optional(b), a)), false},

		{alternative(a, b), false},
		{alternative(empty(), b), true},
		{alternative(a, empty()), true},
		{alternative(empty(), empty()), true},
		{alternative(nothing(), nothing()), false},
		{alternative(nothing(), star(b)), true},
		{alternative(star(b), a), true},
		{alternative(a, concat(star(b), star(a))), true},
		{alternative(a, concat(star(b), a)), false},

		{star(nothing()), true},
		{star(empty()), true},
		{star(a), true},
		{star(set("")), true},
		{star(concat(a, b)), true},
		{star(concat(nothing(), a)), true},
		{star(star(a)), true},

		{group(1, nothing()), false},
		{group(1, empty()), true},
		{group(1, a), false},
		{group(1, star(a)), true},
		{renewal(nothing()), false},
		{renewal(empty()), true},
		{renewal(a), false},
		{renewal(star(a)), true},
		{concat(renewal(star(a)), group(2, a)), false},
		{concat(renewal(star(a)), group(2, optional(a))), true},
	} {
		wantNull(t, x.want, x.c)
	}
}

func TestFirst(t *testing.T) {
	a, b, c := set("a"), set("b"), set("c")
	for _, x := range []struct {
		c    core.Core
		want string
	}{
		{nothing(), ""},
		{empty(), ""},
		{a, "a"},
		{set("bdac"), "abcd"},
		{set(""), ""},

		// The first element doesn't match the empty string, or it does.
		{concat(a, b), "a"},
		{concat(b, a), "b"},
		{concat(set("ab"), set("cd")), "ab"},
		{concat(empty(), b), "b"},
		{concat(a, empty()), "a"},
		{concat(empty(), empty()), ""},
		{concat(star(a), b), "ab"},
		{concat(a, star(b)), "a"},
		{concat(star(a), star(b)), "ab"},
		{concat(optional(a), concat(optional(b), c)), "abc"},
		{concat(optional(a), concat(b, c)), "ab"},
		{concat(concat(star(a), star(b)), c), "abc"},
		{concat(concat(star(a), b), c), "ab"},
		{concat(star(concat(a, b)), c), "ac"},
		{concat(star(a), a), "a"},

		{alternative(a, b), "ab"},
		{alternative(a, a), "a"},
		{alternative(a, empty()), "a"},
		{alternative(empty(), b), "b"},
		{alternative(empty(), empty()), ""},
		{alternative(set("ab"), set("bc")), "abc"},
		{alternative(concat(a, b), concat(star(c), a)), "ac"},

		{star(nothing()), ""},
		{star(empty()), ""},
		{star(a), "a"},
		{star(set("")), ""},
		{star(concat(a, b)), "a"},
		{star(concat(star(a), b)), "ab"},
		{star(alternative(a, star(b))), "ab"},
		{star(star(c)), "c"},

		{group(1, a), "a"},
		{group(1, nothing()), ""},
		{group(1, empty()), ""},
		{group(1, concat(star(a), b)), "ab"},
		{renewal(a), "a"},
		{renewal(nothing()), ""},
		{renewal(empty()), ""},
		{renewal(concat(star(a), b)), "ab"},
		{concat(group(1, optional(a)), renewal(b)), "ab"},
		{concat(renewal(a), group(1, b)), "a"},
	} {
		wantFirst(t, x.want, x.c)
	}
}

// TestFirstOfNoString asks of cores a part of which matches some string, but
// which match none, or of which a part matches none.
func TestFirstOfNoString(t *testing.T) {
	a, b := set("a"), set("b")
	for _, none := range []core.Core{
		nothing(),
		set(""),
		concat(nothing(), b),
		concat(b, nothing()),
		concat(set(""), b),
		concat(b, set("")),
		concat(star(b), nothing()),
		concat(nothing(), star(b)),
		concat(b, concat(star(b), set(""))),
		concat(concat(set(""), b), b),
		concat(empty(), nothing()),
		alternative(nothing(), set("")),
		alternative(concat(b, nothing()), concat(nothing(), b)),
		concat(alternative(b, nothing()), alternative(nothing(), set(""))),
	} {
		for _, c := range []core.Core{none, group(1, none), renewal(none), concat(none, none), alternative(none, none)} {
			wantFirst(t, "", c)
			wantFirst(t, "", concat(a, c))
			wantFirst(t, "", concat(c, a))
			wantFirst(t, "", concat(star(a), c))
			wantFirst(t, "", concat(c, star(a)))
			wantFirst(t, "", concat(a, concat(a, c)))
			wantFirst(t, "", concat(concat(c, a), a))
			wantFirst(t, "", star(c))
			wantFirst(t, "", star(concat(a, c)))
			wantFirst(t, "", star(concat(c, a)))
			wantFirst(t, "a", concat(star(c), a))
			wantFirst(t, "a", concat(star(concat(b, c)), a))
			wantFirst(t, "a", alternative(a, c))
			wantFirst(t, "a", alternative(c, a))
			wantFirst(t, "a", alternative(concat(b, c), a))
			wantFirst(t, "a", alternative(a, concat(star(b), c)))
			wantNull(t, false, c)
			wantNull(t, true, star(c))
			wantEnds(t, c, "aabb", 0, nil)
			wantEnds(t, star(c), "aabb", 1, []int{1})
		}
	}
}

// TestEachByte asks of each byte, alone and beside others.
func TestEachByte(t *testing.T) {
	for b := range 256 {
		s := []byte{byte(b)}
		one := core.Core{Kind: 2, Set: byteset.Of(byte(b))}
		others := core.Core{Kind: 2, Set: one.Set.Not()}
		if lang.First(one) != one.Set || lang.First(others) != others.Set {
			t.Errorf("First of the byte %d: %v, and of the others: %v", b, lang.First(one).List(), lang.First(others).Runs())
		}
		if !lang.Says(one, s) || lang.Says(others, s) {
			t.Errorf("Says of the byte %d: %v, and of the others: %v", b, lang.Says(one, s), lang.Says(others, s))
		}
		for x := range 256 {
			if got := lang.Says(one, []byte{byte(x)}); got != (x == b) {
				t.Errorf("Says of the byte %d and the byte %d: %v", b, x, got)
			}
		}
		wantEnds(t, star(one), string([]byte{byte(b), byte(b), byte(b + 1), byte(b)}), 0, []int{0, 1, 2})
		wantEnds(t, star(others), string([]byte{byte(b + 1), byte(b), byte(b + 1)}), 0, []int{0, 1})
	}
}
