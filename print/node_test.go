package print_test

import (
	"math"
	"strconv"
	"strings"
	"testing"

	"catchpole/byteset"
	"catchpole/print"
	"catchpole/tree"
)

func set(text string) tree.Node { return tree.Node{Kind: 1, Set: of(text)} }

func concat(l ...tree.Node) tree.Node { return tree.Node{Kind: 2, L: l} }

func alternative(l ...tree.Node) tree.Node { return tree.Node{Kind: 3, L: l} }

func repeat(lo, hi int, l ...tree.Node) tree.Node { return tree.Node{Kind: 4, Lo: lo, Hi: hi, L: l} }

func group(number int, l ...tree.Node) tree.Node { return tree.Node{Kind: 5, N: number, L: l} }

func bracket(l ...tree.Node) tree.Node { return tree.Node{Kind: 6, L: l} }

// short is as much of a text as is worth telling.
func short(text string) string {
	if len(text) > 100 {
		return text[:50] + " .. " + text[len(text)-50:] + " (" + strconv.Itoa(len(text)) + " bytes)"
	}
	return text
}

// wantNode asks for the text of n, alone and within other nodes.
func wantNode(t *testing.T, n tree.Node, want string) {
	t.Helper()
	for _, c := range []struct {
		n    tree.Node
		want string
	}{
		{n, want},
		{concat(set("x"), n), "x" + want},
		{concat(n, set("x")), want + "x"},
		{alternative(set("x"), n, set("y")), "x|" + want + "|y"},
		{alternative(n, n), want + "|" + want},
		{repeat(2, 3, n), want + "{2,3}"},
		{group(1, n), "(" + want + ")"},
		{bracket(n), "(?:" + want + ")"},
	} {
		if got := print.Node(c.n); got != c.want {
			t.Errorf("Node: %q, want %q", short(got), short(c.want))
		}
	}
}

func TestSetNode(t *testing.T) {
	wantNode(t, set("a"), "a")
	wantNode(t, set("."), "\\.")
	wantNode(t, set("ab"), "[ab]")
	wantNode(t, set("abc"), "[a-c]")
	wantNode(t, set("^-"), "[-^]")
	wantNode(t, tree.Node{Kind: 1, Set: byteset.All()}, ".")
	wantNode(t, tree.Node{Kind: 1, Set: named("digit")}, "[[:digit:]]")
	wantNode(t, tree.Node{Kind: 1, Set: of("a").Not()}, "[^a]")
	for b := range 256 {
		s := byteset.Of(byte(b))
		wantNode(t, tree.Node{Kind: 1, Set: s}, print.Set(s))
		wantNode(t, tree.Node{Kind: 1, Set: s.Not()}, print.Set(s.Not()))
	}
}

func TestConcatenation(t *testing.T) {
	wantNode(t, concat(set("a"), set("b")), "ab")
	wantNode(t, concat(set("b"), set("a")), "ba")
	wantNode(t, concat(set("a"), set("a")), "aa")
	wantNode(t, concat(set("a"), set("b"), set("c"), set("d")), "abcd")
	wantNode(t, concat(set("ab"), set("*"), set("\xff")), "[ab]\\*\xff")
	wantNode(t, concat(set("a"), repeat(0, -1, set("b"))), "ab*")
	wantNode(t, concat(repeat(0, -1, set("a")), set("b")), "a*b")
	wantNode(t, concat(group(1, set("a")), bracket(set("b"))), "(a)(?:b)")
}

func TestAlternative(t *testing.T) {
	wantNode(t, alternative(set("a"), set("b")), "a|b")
	wantNode(t, alternative(set("b"), set("a")), "b|a")
	wantNode(t, alternative(set("a"), set("a"), set("a")), "a|a|a")
	wantNode(t, alternative(set("|"), set("a")), "\\||a")
	wantNode(t, alternative(concat(set("a"), set("b")), set("c")), "ab|c")
	wantNode(t, alternative(set("a"), concat(set("b"), set("c"))), "a|bc")
	wantNode(t, alternative(repeat(1, -1, set("a")), group(1, set("b")), bracket(set("c"))), "a+|(b)|(?:c)")
}

// TestRepetition asks for each pair of bounds that has a text of its own.
func TestRepetition(t *testing.T) {
	for _, c := range []struct {
		lo, hi int
		want   string
	}{
		{0, -1, "*"},
		{1, -1, "+"},
		{0, 1, "?"},
		{2, -1, "{2,}"},
		{3, -1, "{3,}"},
		{10, -1, "{10,}"},
		{254, -1, "{254,}"},
		{255, -1, "{255,}"},
		{0, 0, "{0}"},
		{1, 1, "{1}"},
		{2, 2, "{2}"},
		{10, 10, "{10}"},
		{255, 255, "{255}"},
		{0, 2, "{0,2}"},
		{0, 255, "{0,255}"},
		{1, 2, "{1,2}"},
		{1, 255, "{1,255}"},
		{2, 3, "{2,3}"},
		{9, 10, "{9,10}"},
		{254, 255, "{254,255}"},
	} {
		wantNode(t, repeat(c.lo, c.hi, set("a")), "a"+c.want)
		wantNode(t, repeat(c.lo, c.hi, set("ab")), "[ab]"+c.want)
		wantNode(t, repeat(c.lo, c.hi, set("{")), "\\{"+c.want)
		wantNode(t, repeat(c.lo, c.hi, group(1, set("a"))), "(a)"+c.want)
		wantNode(t, repeat(c.lo, c.hi, bracket(set("a"))), "(?:a)"+c.want)
		wantNode(t, repeat(c.lo, c.hi, bracket(repeat(c.lo, c.hi, set("a")))), "(?:a"+c.want+")"+c.want)
	}
}

func TestGroupAndBracket(t *testing.T) {
	for _, c := range []struct {
		n    tree.Node
		want string
	}{
		{set("a"), "a"},
		{set("?"), "\\?"},
		{concat(set("a"), set("b")), "ab"},
		{alternative(set("a"), set("b")), "a|b"},
		{repeat(0, -1, set("a")), "a*"},
		{group(2, set("a")), "(a)"},
		{bracket(set("a")), "(?:a)"},
		{bracket(group(2, bracket(set("a")))), "(?:((?:a)))"},
	} {
		wantNode(t, group(1, c.n), "("+c.want+")")
		wantNode(t, bracket(c.n), "(?:"+c.want+")")
	}
	// The number is not part of the text.
	for _, number := range []int{-1, 0, 1, 32, 33, math.MaxInt} {
		wantNode(t, group(number, set("a")), "(a)")
	}
}

func TestNested(t *testing.T) {
	wantNode(t, concat(
		group(1, alternative(
			concat(set("a"), repeat(2, -1, group(2, set("b")))),
			repeat(0, -1, bracket(alternative(set("c"), set("d"), set("e")))),
		)),
		repeat(2, 3, set("0123456789")),
		bracket(group(3, bracket(set("-")))),
	), "(a(b){2,}|(?:c|d|e)*)[[:digit:]]{2,3}(?:((?:-)))")
	wantNode(t, repeat(0, 1, group(1, repeat(1, -1, bracket(repeat(0, -1, group(2, repeat(4, 4, set("a")))))))),
		"((?:(a{4})*)+)?")
	wantNode(t, alternative(
		concat(bracket(alternative(set("a"), set("b"))), set("c")),
		concat(set("d"), group(1, alternative(set("e"), set("f")))),
	), "(?:a|b)c|d(e|f)")
}

// TestUnknownKind asks for nodes of kinds that there are not: the texts of L are
// all that they have.
func TestUnknownKind(t *testing.T) {
	for _, kind := range []int{-1, 0, 7, 8, 42, math.MinInt, math.MaxInt} {
		for _, n := range []tree.Node{
			{Kind: kind},
			{Kind: kind, Set: of("x"), Lo: 2, Hi: 3, N: 1},
		} {
			wantNode(t, n, "")
			n.L = []tree.Node{}
			wantNode(t, n, "")
			n.L = []tree.Node{set("a")}
			wantNode(t, n, "a")
			n.L = []tree.Node{set("a"), set("b")}
			wantNode(t, n, "ab")
			n.L = []tree.Node{alternative(set("a"), set("b")), {Kind: kind}, repeat(0, -1, set("c")), n}
			wantNode(t, n, "a|bc*ab")
		}
	}
}

// TestWrongLists asks for nodes whose L has too many nodes or too few.
func TestWrongLists(t *testing.T) {
	none := tree.Node{Kind: 1}
	for _, c := range []struct {
		n    tree.Node
		want string
	}{
		// The text of a set is that of Set alone.
		{none, ""},
		{tree.Node{Kind: 1, L: []tree.Node{set("x")}}, ""},
		{tree.Node{Kind: 1, Set: of("a"), L: []tree.Node{}}, "a"},
		{tree.Node{Kind: 1, Set: of("a"), L: []tree.Node{set("x")}}, "a"},
		{tree.Node{Kind: 1, Set: of("ab"), L: []tree.Node{set("x"), set("y")}}, "[ab]"},

		{concat(), ""},
		{concat(set("a")), "a"},
		{concat(none), ""},
		{concat(none, none), ""},
		{concat(none, set("a"), none), "a"},
		{concat(concat(set("a"), set("b")), concat(set("c"))), "abc"},
		{concat(alternative(set("a"), set("b")), set("c")), "a|bc"},

		{alternative(), ""},
		{alternative(set("a")), "a"},
		{alternative(none), ""},
		{alternative(none, none), "|"},
		{alternative(none, set("a"), none), "|a|"},
		{alternative(alternative(set("a"), set("b")), set("c")), "a|b|c"},
		{alternative(alternative(), alternative()), "|"},

		{repeat(0, -1), "*"},
		{repeat(1, -1), "+"},
		{repeat(0, 1), "?"},
		{repeat(2, -1), "{2,}"},
		{repeat(2, 2), "{2}"},
		{repeat(2, 3), "{2,3}"},
		{repeat(0, -1, set("a"), set("b")), "ab*"},
		{repeat(2, 3, set("a"), set("b"), set("c")), "abc{2,3}"},
		{repeat(0, -1, none), "*"},
		{repeat(0, -1, concat(set("a"), set("b"))), "ab*"},
		{repeat(0, -1, alternative(set("a"), set("b"))), "a|b*"},
		{repeat(0, -1, repeat(1, -1, set("a"))), "a+*"},

		{group(1), "()"},
		{group(1, none), "()"},
		{group(1, set("a"), set("b")), "(ab)"},
		{group(1, set("a"), alternative(set("b"), set("c")), set("d")), "(ab|cd)"},

		{bracket(), "(?:)"},
		{bracket(none), "(?:)"},
		{bracket(set("a"), set("b")), "(?:ab)"},
		{bracket(set("a"), alternative(set("b"), set("c")), set("d")), "(?:ab|cd)"},
	} {
		wantNode(t, c.n, c.want)
	}
}

// TestWrongFields asks for nodes with fields of other kinds.
func TestWrongFields(t *testing.T) {
	for _, c := range []struct {
		n    tree.Node
		want string
	}{
		{set("a"), "a"},
		{concat(set("a"), set("b")), "ab"},
		{alternative(set("a"), set("b")), "a|b"},
		{group(1, set("a")), "(a)"},
		{bracket(set("a")), "(?:a)"},
	} {
		n := c.n
		n.Lo, n.Hi, n.N = 2, 3, 7
		if n.Kind != 1 {
			n.Set = of("xyz")
		}
		wantNode(t, n, c.want)
	}
	n := repeat(2, 3, set("a"))
	n.Set, n.N = of("xyz"), 7
	wantNode(t, n, "a{2,3}")
}

// TestNoBounds asks for bounds that are none.
func TestNoBounds(t *testing.T) {
	most, least := strconv.Itoa(math.MaxInt), strconv.Itoa(math.MinInt)
	for _, c := range []struct {
		lo, hi int
		want   string
	}{
		{-1, -1, "{-1,}"},
		{-2, -1, "{-2,}"},
		{-2, -2, "{-2}"},
		{-1, 0, "{-1,0}"},
		{-1, 1, "{-1,1}"},
		{0, -2, "{0,-2}"},
		{1, -2, "{1,-2}"},
		{1, 0, "{1,0}"},
		{3, 2, "{3,2}"},
		{256, -1, "{256,}"},
		{256, 256, "{256}"},
		{0, 256, "{0,256}"},
		{255, 256, "{255,256}"},
		{256, 255, "{256,255}"},
		{1000000, 2000000, "{1000000,2000000}"},
		{math.MaxInt, -1, "{" + most + ",}"},
		{math.MaxInt, math.MaxInt, "{" + most + "}"},
		{math.MinInt, math.MaxInt, "{" + least + "," + most + "}"},
		{math.MinInt, math.MinInt, "{" + least + "}"},
		{math.MinInt, -1, "{" + least + ",}"},
		{0, math.MinInt, "{0," + least + "}"},
	} {
		wantNode(t, repeat(c.lo, c.hi, set("a")), "a"+c.want)
		wantNode(t, repeat(c.lo, c.hi), c.want)
	}
}

// nest is n within that many levels of what outer makes.
func nest(n tree.Node, levels int, outer func(tree.Node) tree.Node) tree.Node {
	for range levels {
		n = outer(n)
	}
	return n
}

// TestDeep asks for nodes of as many levels as there may be.
func TestDeep(t *testing.T) {
	const levels = 1<<16 - 1
	for _, c := range []struct {
		outer         func(tree.Node) tree.Node
		ahead, behind string
	}{
		{func(n tree.Node) tree.Node { return concat(n) }, "", ""},
		{func(n tree.Node) tree.Node { return concat(set("x"), n, set("y")) }, "x", "y"},
		{func(n tree.Node) tree.Node { return alternative(n) }, "", ""},
		{func(n tree.Node) tree.Node { return alternative(n, set("x")) }, "", "|x"},
		{func(n tree.Node) tree.Node { return alternative(set("x"), n) }, "x|", ""},
		{func(n tree.Node) tree.Node { return repeat(0, -1, n) }, "", "*"},
		{func(n tree.Node) tree.Node { return repeat(255, 255, n) }, "", "{255}"},
		{func(n tree.Node) tree.Node { return group(1, n) }, "(", ")"},
		{func(n tree.Node) tree.Node { return bracket(n) }, "(?:", ")"},
		{func(n tree.Node) tree.Node { return tree.Node{Kind: 9, L: []tree.Node{n}} }, "", ""},
	} {
		n := nest(set("a"), levels, c.outer)
		want := strings.Repeat(c.ahead, levels) + "a" + strings.Repeat(c.behind, levels)
		if got := print.Node(n); got != want {
			t.Errorf("Node: %q, want %q", short(got), short(want))
		}
	}
}

// TestWide asks for nodes with many in L.
func TestWide(t *testing.T) {
	const count = 1 << 20
	l := make([]tree.Node, count)
	for i := range l {
		l[i] = set("a")
	}
	each := strings.Repeat("a", count)
	for _, c := range []struct {
		n    tree.Node
		want string
	}{
		{tree.Node{Kind: 0, L: l}, each},
		{tree.Node{Kind: 1, Set: of("b"), L: l}, "b"},
		{concat(l...), each},
		{alternative(l...), strings.Repeat("|a", count)[1:]},
		{repeat(1, 7, l...), each + "{1,7}"},
		{group(1, l...), "(" + each + ")"},
		{bracket(l...), "(?:" + each + ")"},
	} {
		if got := print.Node(c.n); got != c.want {
			t.Errorf("Node: %q, want %q", short(got), short(c.want))
		}
	}
}
