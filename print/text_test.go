package print_test

import (
	"math/rand"
	"strings"
	"testing"

	"catchpole/api"
	"catchpole/byteset"
	"catchpole/parse"
	"catchpole/print"
	"catchpole/tree"
)

// The functions with the signatures that the chapter lists: others would not
// build.
var (
	_ func(byteset.Set) string               = print.Set
	_ func(tree.Node) string                 = print.Node
	_ func(tree.Pattern) (string, api.Errno) = print.Text
)

// wantText asks for the text of p, and that it is read as p.
func wantText(t *testing.T, p tree.Pattern, want string) {
	t.Helper()
	got, errno := print.Text(p)
	if errno != api.OK || got != want {
		t.Errorf("Text: %q, %v, want %q and OK", short(got), errno, short(want))
	}
	wantRead(t, p, got)
}

// wantRead asks that the text of p is read as p.
func wantRead(t *testing.T, p tree.Pattern, text string) {
	t.Helper()
	got, n, errno := parse.Of(text)
	if errno != api.OK || n != len(text) {
		t.Errorf("Of(%q): %d, %v, want %d and OK", text, n, errno, len(text))
	}
	if got.Start != p.Start || got.End != p.End || got.Groups != p.Groups || !tree.Same(got.Root, p.Root) {
		t.Errorf("Of(%q): %+v, want %+v", text, got, p)
	}
}

// wantNoText asks for an error, with which there is no text.
func wantNoText(t *testing.T, p tree.Pattern, want api.Errno) {
	t.Helper()
	if got, errno := print.Text(p); errno != want || got != "" {
		t.Errorf("Text: %q, %v, want none and %v", short(got), errno, want)
	}
}

// ends has a pattern with and without Start and End.
func ends(root tree.Node, groups int) []tree.Pattern {
	return []tree.Pattern{
		{Root: root, Groups: groups},
		{Root: root, Groups: groups, Start: true},
		{Root: root, Groups: groups, End: true},
		{Root: root, Groups: groups, Start: true, End: true},
	}
}

func TestText(t *testing.T) {
	for _, c := range []struct {
		root   tree.Node
		groups int
		want   string
	}{
		{set("a"), 0, "a"},
		{set("^"), 0, "\\^"},
		{set("$"), 0, "\\$"},
		{set("^$"), 0, "[$^]"},
		{tree.Node{Kind: 1, Set: of("^").Not()}, 0, "[^^]"},
		{concat(set("^"), set("$")), 0, "\\^\\$"},
		{alternative(set("a"), set("b")), 0, "a|b"},
		{concat(set("a"), group(1, set("b"))), 1, "a(b)"},
		{repeat(0, -1, bracket(group(1, alternative(set("a"), group(2, set("b")))))), 2, "(?:(a|(b)))*"},
	} {
		for i, p := range ends(c.root, c.groups) {
			want := []string{c.want, "^" + c.want, c.want + "$", "^" + c.want + "$"}[i]
			wantText(t, p, want)
			if text := print.Node(p.Root); text != c.want {
				t.Errorf("Node: %q, want %q", text, c.want)
			}
		}
	}
}

// wide is a concatenation of that many nodes.
func wide(count int, n tree.Node) tree.Node {
	l := make([]tree.Node, count)
	for i := range l {
		l[i] = n
	}
	return concat(l...)
}

// odd is a set of 128 bytes, no two of them beside each other, with a text of 130
// bytes.
func odd() tree.Node {
	var s byteset.Set
	for b := 1; b < 256; b += 2 {
		s = s.Or(byteset.Of(byte(b)))
	}
	return tree.Node{Kind: 1, Set: s}
}

// TestTextNotValid asks for EARG, also where the text would be too long.
func TestTextNotValid(t *testing.T) {
	long := wide(1100, set("a"))
	for _, c := range []struct {
		root   tree.Node
		groups int
	}{
		{tree.Node{}, 0},
		{tree.Node{Kind: 1}, 0},
		{tree.Node{Kind: 7, L: []tree.Node{set("a")}}, 0},
		{tree.Node{Kind: 1, Set: of("a"), L: []tree.Node{set("a")}}, 0},
		{tree.Node{Kind: 1, Set: of("a"), N: 1}, 0},
		{set("a"), 1},
		{set("a"), -1},
		{group(1, set("a")), 0},
		{group(2, set("a")), 1},
		{concat(set("a")), 0},
		{concat(), 0},
		{concat(set("a"), alternative(set("a"), set("b"))), 0},
		{alternative(set("a")), 0},
		{repeat(3, 2, set("a")), 0},
		{repeat(0, 256, set("a")), 0},
		{repeat(0, -1, concat(set("a"), set("b"))), 0},
		{repeat(0, -1), 0},
		{bracket(), 0},
		{bracket(set("a"), set("b")), 0},
		{nest(set("a"), api.MaxDepth, func(n tree.Node) tree.Node { return bracket(n) }), 0},

		{long, 1},
		{concat(long, set("a")), 0},
		{group(0, long), 1},
		{repeat(0, -1, long), 0},
		{bracket(long, long), 0},
		{wide(api.MaxCore, set("a")), 0},
		{wide(1<<17, set("a")), 0},
		{nest(long, 1<<15, func(n tree.Node) tree.Node { return bracket(n) }), 0},
	} {
		for _, p := range ends(c.root, c.groups) {
			wantNoText(t, p, api.EARG)
		}
	}
}

// TestTextSize asks for texts of MaxText bytes, and of some more and fewer.
func TestTextSize(t *testing.T) {
	for length := api.MaxText - 4; length <= api.MaxText+2; length++ {
		for _, c := range []struct {
			root   tree.Node
			groups int
		}{
			{wide(length, set("a")), 0},
			{wide(length-1, set("a")), 0},
			{concat(append(wide(length-2, set("a")).L, set("*"))...), 0},
			{group(1, wide(length-2, set("a"))), 1},
			{bracket(wide(length-4, set("a"))), 0},
			{repeat(0, 255, group(1, wide(length-9, set("\xff")))), 1},
			{concat(append(wide(length-130*7, set("a")).L, wide(7, odd()).L...)...), 0},
			{alternative(wide(length-8, set("a")), set("abc"), set("d")), 0},
		} {
			for _, p := range ends(c.root, c.groups) {
				size := len(print.Node(p.Root))
				if p.Start {
					size++
				}
				if p.End {
					size++
				}
				if size > api.MaxText {
					wantNoText(t, p, api.ELARGE)
					continue
				}
				text, errno := print.Text(p)
				if errno != api.OK || len(text) != size {
					t.Errorf("Text: %d bytes, %v, want %d and OK", len(text), errno, size)
				}
				wantRead(t, p, text)
			}
		}
	}
	all := strings.Repeat("a", api.MaxText)
	wantText(t, tree.Pattern{Root: wide(api.MaxText, set("a"))}, all)
	wantText(t, tree.Pattern{Root: wide(api.MaxText-1, set("a")), Start: true}, "^"+all[1:])
	wantText(t, tree.Pattern{Root: wide(api.MaxText-1, set("a")), End: true}, all[1:]+"$")
	wantText(t, tree.Pattern{Root: wide(api.MaxText-2, set("a")), Start: true, End: true}, "^"+all[2:]+"$")
	wantNoText(t, tree.Pattern{Root: wide(api.MaxText+1, set("a"))}, api.ELARGE)
	wantNoText(t, tree.Pattern{Root: wide(api.MaxText, set("a")), Start: true}, api.ELARGE)
	wantNoText(t, tree.Pattern{Root: wide(api.MaxText, set("a")), End: true}, api.ELARGE)
	wantNoText(t, tree.Pattern{Root: wide(api.MaxText-1, set("a")), Start: true, End: true}, api.ELARGE)
	wantNoText(t, tree.Pattern{Root: wide(api.MaxCore-1, set("a"))}, api.ELARGE)
	wantNoText(t, tree.Pattern{Root: wide(api.MaxCore-1, odd())}, api.ELARGE)
}

// clone is n with memory of its own, and with that much spare capacity in each
// list, which holds nodes of kind 42.
func clone(n tree.Node, spare int) tree.Node {
	l := make([]tree.Node, len(n.L), len(n.L)+spare)
	for i, x := range n.L {
		l[i] = clone(x, spare)
	}
	for i := range spare {
		l[:cap(l)][len(l)+i].Kind = 42
	}
	n.L = l
	return n
}

// kept reports whether no list of n has anything else in its spare capacity.
func kept(n tree.Node) bool {
	for _, x := range n.L {
		if !kept(x) {
			return false
		}
	}
	for _, x := range n.L[len(n.L):cap(n.L)] {
		if !tree.Same(x, tree.Node{Kind: 42}) {
			return false
		}
	}
	return true
}

// TestNothingChanges asks that nodes, also those that are not valid, are as they
// were, and yield the same text again.
func TestNothingChanges(t *testing.T) {
	for _, root := range []tree.Node{
		set("[a"),
		concat(set("a"), set("]^-[")),
		repeat(2, 3, group(1, alternative(set("a"), concat(set("b"), bracket(set("c"))), set("d")))),
		concat(),
		repeat(2, 1, set("a"), set("b")),
		tree.Node{Kind: 9, Set: of("a"), N: 7, L: []tree.Node{alternative(set("a")), group(0)}},
		wide(api.MaxText+1, set("a")),
	} {
		for _, groups := range []int{0, 1} {
			for _, p := range ends(clone(root, 3), groups) {
				first, errno := print.Text(p)
				node := print.Node(p.Root)
				if !tree.Same(p.Root, root) || !kept(p.Root) {
					t.Errorf("Node or Text has changed %q", short(node))
				}
				if again, e := print.Text(p); again != first || e != errno || print.Node(p.Root) != node {
					t.Errorf("Text: %q, %v, was %q, %v", again, e, first, errno)
				}
			}
		}
	}
}

// TestTextsRead asks for the texts of patterns that were read: they are not
// always the same again, but are read as the same.
func TestTextsRead(t *testing.T) {
	for _, c := range []struct{ p, want string }{
		{"a", "a"},
		{"^a|b$", "^a|b$"},
		{"(a(b)|(?:c)*)d{2,3}", "(a(b)|(?:c)*)d{2,3}"},
		{"a{2,}b{3}c{4,5}", "a{2,}b{3}c{4,5}"},
		{"a{0,}b{1,}c{0,1}d{2,2}e{007}", "a*b+c?d{2}e{7}"},
		{"a{1}b{0}", "a{1}b{0}"},
		{"[a]", "a"},
		{"[.]", "\\."},
		{"\\-", "-"},
		{"[a-z]", "[[:lower:]]"},
		{"[[:alpha:][:digit:]]", "[[:alnum:]]"},
		{"[^[:alpha:]]", "[^A-Za-z]"},
		{"[\x00-\xff]", "."},
		{"[^^]", "[^^]"},
		{"[^-^]", "[^-^]"},
		{"[a^-]", "[a^-]"},
		{"[-^]", "[-^]"},
		{"[[a]", "[a[]"},
		{"[cba]", "[a-c]"},
		{"\\(\\?:a\\)", "\\(\\?:a\\)"},
		{"(:a)", "(:a)"},
		{"(\\?:a)", "(\\?:a)"},
		{"}-,]", "\\}-,\\]"},
		{"a\\}", "a\\}"},
		{"^(((a)))((b)|c)$", "^(((a)))((b)|c)$"},
		{"((?:(?:a)+)?){2}", "((?:(?:a)+)?){2}"},
	} {
		p, _, errno := parse.Of(c.p)
		if errno != api.OK {
			t.Errorf("Of(%q): %v", c.p, errno)
			continue
		}
		wantText(t, p, c.want)
	}
}

// eachText does something with each text of at most that many parts.
func eachText(parts []string, most int, ahead string, do func(string)) {
	do(ahead)
	if most == 0 {
		return
	}
	for _, part := range parts {
		eachText(parts, most-1, ahead+part, do)
	}
}

// TestAllShortPatterns asks for all patterns of few tokens. These are written as
// they were read.
func TestAllShortPatterns(t *testing.T) {
	for _, c := range []struct {
		parts string
		most  int
	}{
		{"a * ( (?: ) | ^ $", 6},
		{"a ( ) |", 8},
		{"[^a] {2,3} \\$ ^ $ | ( )", 5},
		{". + ? {2,} {0} []a] [-^]", 5},
	} {
		count := 0
		eachText(strings.Fields(c.parts), c.most, "", func(text string) {
			if p, _, errno := parse.Of(text); errno == api.OK {
				count++
				wantText(t, p, text)
			}
		})
		if count < 100 {
			t.Errorf("%d patterns of %q", count, c.parts)
		}
	}
}

// grower grows valid patterns.
type grower struct {
	r      *rand.Rand
	groups int
}

// root is an alternative, or what stands for one, of at most that many levels of
// groups and brackets.
func (g *grower) root(levels int) tree.Node {
	return g.some(3, func() tree.Node {
		return g.some(2, func() tree.Node { return g.piece(levels) })
	})
}

// some is a node of that kind with some nodes, or the only one of them.
func (g *grower) some(kind int, one func() tree.Node) tree.Node {
	var l []tree.Node
	for range 1 + g.r.Intn(3) {
		l = append(l, one())
	}
	if len(l) == 1 {
		return l[0]
	}
	return tree.Node{Kind: kind, L: l}
}

func (g *grower) piece(levels int) tree.Node {
	n := g.atom(levels)
	if g.r.Intn(3) > 0 {
		return n
	}
	lo := []int{0, 0, 1, 1, 2, 9, 10, 99, 100, 254, 255}[g.r.Intn(11)]
	hi := []int{-1, lo, min(lo+1, 255), min(lo+g.r.Intn(300), 255), 255}[g.r.Intn(5)]
	return repeat(lo, hi, n)
}

func (g *grower) atom(levels int) tree.Node {
	switch choice := g.r.Intn(4); {
	case levels > 0 && choice == 0 && g.groups < api.MaxGroups:
		g.groups++
		number := g.groups
		return group(number, g.root(levels-1))
	case levels > 0 && choice == 1:
		return bracket(g.root(levels - 1))
	}
	return tree.Node{Kind: 1, Set: drawn(g.r)}
}

// TestDrawnPatterns asks for many patterns of all kinds.
func TestDrawnPatterns(t *testing.T) {
	r := rand.New(rand.NewSource(1))
	read, large := 0, 0
	for range 5000 {
		g := grower{r: r}
		root := g.root(r.Intn(5))
		for _, p := range ends(root, g.groups) {
			if !tree.Good(p) {
				t.Fatalf("not valid: %q", print.Node(root))
			}
			text, errno := print.Text(p)
			if errno == api.OK {
				read++
				wantRead(t, p, text)
				continue
			}
			large++
			if len(print.Node(root))+2 <= api.MaxText {
				t.Errorf("Text of %q: %v", print.Node(root), errno)
			}
		}
	}
	if read < 10000 || large < 100 {
		t.Errorf("%d patterns read and %d too large", read, large)
	}
}

// TestDeepPatterns asks for the deepest patterns and for those with the most
// groups.
func TestDeepPatterns(t *testing.T) {
	deep := nest(set("a"), api.MaxDepth-1, func(n tree.Node) tree.Node { return bracket(n) })
	wantText(t, tree.Pattern{Root: deep}, strings.Repeat("(?:", 63)+"a"+strings.Repeat(")", 63))
	nested := set("a")
	for number := api.MaxGroups; number > 0; number-- {
		nested = group(number, nested)
	}
	wantText(t, tree.Pattern{Root: nested, Groups: 32}, strings.Repeat("(", 32)+"a"+strings.Repeat(")", 32))
	var row []tree.Node
	for number := range api.MaxGroups {
		row = append(row, group(number+1, set("a")))
	}
	wantText(t, tree.Pattern{Root: concat(row...), Groups: 32}, strings.Repeat("(a)", 32))
	wantText(t, tree.Pattern{Root: alternative(row...), Groups: 32}, strings.Repeat("|(a)", 32)[1:])
}
