package parse_test

import (
	"fmt"
	"strings"
	"testing"

	"catchpole/api"
	"catchpole/byteset"
	"catchpole/parse"
	"catchpole/tree"
)

// The function with the signature that the chapter lists: another one would not
// build.
var _ func(string) (tree.Pattern, int, api.Errno) = parse.Of

// show is a text of a node that is part of a valid pattern. A set is its runs,
// (.. ..) is a concatenation, [..|..] an alternative, ..{lo,hi} a repetition,
// 1<..> group 1 and <..> a bracket.
func show(n tree.Node) string {
	within := make([]string, len(n.L))
	for i, x := range n.L {
		within[i] = show(x)
	}
	switch n.Kind {
	case 1:
		return runs(n.Set)
	case 2:
		return "(" + strings.Join(within, " ") + ")"
	case 3:
		return "[" + strings.Join(within, "|") + "]"
	case 4:
		return fmt.Sprintf("%s{%d,%d}", within[0], n.Lo, n.Hi)
	case 5:
		return fmt.Sprintf("%d<%s>", n.N, within[0])
	}
	return "<" + within[0] + ">"
}

// runs is a text of a set.
func runs(s byteset.Set) string {
	if s == byteset.All() {
		return "all"
	}
	text := ""
	for _, r := range s.Runs() {
		text += string(rune(r.Lo))
		if r.Lo < r.Hi {
			text += "-" + string(rune(r.Hi))
		}
	}
	return text
}

// wantPattern asks that p is that root, without Start and End, and the same root
// with Start, with End, and with both.
func wantPattern(t *testing.T, p, root string) {
	t.Helper()
	for _, start := range []string{"", "^"} {
		for _, end := range []string{"", "$"} {
			wantWhole(t, start+p+end, start != "", end != "", root)
		}
	}
}

// wantWhole asks that p is that root with that Start and that End.
func wantWhole(t *testing.T, p string, start, end bool, root string) {
	t.Helper()
	got, n, errno := parse.Of(p)
	if errno != api.OK || n != len(p) {
		t.Errorf("Of(%q): %d, %v, want %d and OK", p, n, errno, len(p))
		return
	}
	if !tree.Good(got) {
		t.Errorf("Of(%q) is not valid: %+v", p, got)
		return
	}
	if got.Start != start || got.End != end {
		t.Errorf("Of(%q): Start %v and End %v", p, got.Start, got.End)
	}
	if text := show(got.Root); text != root {
		t.Errorf("Of(%q): %s, want %s", p, text, root)
	}
}

func TestAlternative(t *testing.T) {
	wantPattern(t, "a", "a")
	wantPattern(t, "a|b", "[a|b]")
	wantPattern(t, "b|a", "[b|a]")
	wantPattern(t, "a|a", "[a|a]")
	wantPattern(t, "a|b|c", "[a|b|c]")
	wantPattern(t, "a|b|c|d|e", "[a|b|c|d|e]")
	wantPattern(t, "ab", "(a b)")
	wantPattern(t, "ab|c", "[(a b)|c]")
	wantPattern(t, "a|bc", "[a|(b c)]")
	wantPattern(t, "ab|cd", "[(a b)|(c d)]")
	wantPattern(t, "abc|d|ef", "[(a b c)|d|(e f)]")
}

func TestConcatenation(t *testing.T) {
	wantPattern(t, "ba", "(b a)")
	wantPattern(t, "aa", "(a a)")
	wantPattern(t, "abc", "(a b c)")
	wantPattern(t, "abcdef", "(a b c d e f)")
	wantPattern(t, "a*b", "(a{0,-1} b)")
	wantPattern(t, "ab*", "(a b{0,-1})")
	wantPattern(t, "a+b?", "(a{1,-1} b{0,1})")
	wantPattern(t, "a(b)", "(a 1<b>)")
	wantPattern(t, "(a)b", "(1<a> b)")
	wantPattern(t, "(a)(b)", "(1<a> 2<b>)")
	wantPattern(t, "(?:a)b", "(<a> b)")
	wantPattern(t, "a(?:b)", "(a <b>)")
	wantPattern(t, "(?:a)(?:b)", "(<a> <b>)")
	wantPattern(t, "(?:a)(b)c", "(<a> 1<b> c)")
}

// TestEnclosed asks for what stands in a group and in a bracket: one that is
// alone there is that one itself.
func TestEnclosed(t *testing.T) {
	for _, c := range []struct{ p, root string }{
		{"a", "a"},
		{"a*", "a{0,-1}"},
		{"ab", "(a b)"},
		{"abc", "(a b c)"},
		{"a|b", "[a|b]"},
		{"a|b|c", "[a|b|c]"},
		{"ab|c", "[(a b)|c]"},
		{"a|bc*", "[a|(b c{0,-1})]"},
		{"(?:a)", "<a>"},
		{"(?:ab)", "<(a b)>"},
		{"(?:a|b)", "<[a|b]>"},
		{"(?:a)|b", "[<a>|b]"},
		{"(?:a|b)(?:c|d)", "(<[a|b]> <[c|d]>)"},
		{"(?:(?:a)*b)+", "<(<a>{0,-1} b)>{1,-1}"},
	} {
		wantPattern(t, c.p, c.root)
		wantPattern(t, "("+c.p+")", "1<"+c.root+">")
		wantPattern(t, "(?:"+c.p+")", "<"+c.root+">")
		wantPattern(t, "("+c.p+")?", "1<"+c.root+">{0,1}")
		wantPattern(t, "(?:"+c.p+")?", "<"+c.root+">{0,1}")
		wantPattern(t, "x("+c.p+")y", "(x 1<"+c.root+"> y)")
		wantPattern(t, "x(?:"+c.p+")y", "(x <"+c.root+"> y)")
		wantPattern(t, "x|("+c.p+")|y", "[x|1<"+c.root+">|y]")
		wantPattern(t, "x|(?:"+c.p+")|y", "[x|<"+c.root+">|y]")
		wantPattern(t, "(("+c.p+"))", "1<2<"+c.root+">>")
		wantPattern(t, "(?:(?:"+c.p+"))", "<<"+c.root+">>")
		wantPattern(t, "(?:("+c.p+"))", "<1<"+c.root+">>")
		wantPattern(t, "((?:"+c.p+"))", "1<<"+c.root+">>")
	}
}

// TestRepetition asks for each repetition of each kind of piece, which repeats
// that piece alone.
func TestRepetition(t *testing.T) {
	for _, r := range []struct{ p, bounds string }{
		{"*", "{0,-1}"},
		{"+", "{1,-1}"},
		{"?", "{0,1}"},
		{"{0}", "{0,0}"},
		{"{1}", "{1,1}"},
		{"{7}", "{7,7}"},
		{"{0,}", "{0,-1}"},
		{"{2,}", "{2,-1}"},
		{"{0,0}", "{0,0}"},
		{"{2,3}", "{2,3}"},
		{"{3,3}", "{3,3}"},
		{"{0,255}", "{0,255}"},
		{"{255}", "{255,255}"},
		{"{255,}", "{255,-1}"},
		{"{007,0255}", "{7,255}"},
	} {
		for _, x := range []struct{ p, text string }{
			{"a", "a"},
			{".", "all"},
			{"[a-cx]", "a-cx"},
			{"\\*", "*"},
			{"(a)", "1<a>"},
			{"(ab)", "1<(a b)>"},
			{"(a|b)", "1<[a|b]>"},
			{"(a+)", "1<a{1,-1}>"},
			{"((a)+)", "1<2<a>{1,-1}>"},
			{"(?:a)", "<a>"},
			{"(?:ab)", "<(a b)>"},
			{"(?:a|b)", "<[a|b]>"},
			{"(?:a+)", "<a{1,-1}>"},
		} {
			wantPattern(t, x.p, x.text)
			wantPattern(t, x.p+r.p, x.text+r.bounds)
			wantPattern(t, "y"+x.p+r.p, "(y "+x.text+r.bounds+")")
			wantPattern(t, x.p+r.p+"y", "("+x.text+r.bounds+" y)")
			wantPattern(t, "y+"+x.p+r.p+"y?", "(y{1,-1} "+x.text+r.bounds+" y{0,1})")
			wantPattern(t, "y|"+x.p+r.p, "[y|"+x.text+r.bounds+"]")
			wantPattern(t, x.p+r.p+"|y", "["+x.text+r.bounds+"|y]")
			wantPattern(t, "(?:"+x.p+r.p+")"+r.p, "<"+x.text+r.bounds+">"+r.bounds)
		}
	}
}

// TestSet asks for the sets that stand for one byte, for each byte that does not
// need a backslash.
func TestSet(t *testing.T) {
	for b := range 256 {
		p := string([]byte{byte(b)})
		if strings.Contains(`\^$.[|()*+?{`, p) {
			p = "\\" + p
		}
		text := runs(byteset.Of(byte(b)))
		wantPattern(t, p, text)
		wantPattern(t, p+p, "("+text+" "+text+")")
		wantPattern(t, "("+p+"|"+p+"*)", "1<["+text+"|"+text+"{0,-1}]>")
	}
	wantPattern(t, "[^b-\xff]", "\x00-a")
	wantPattern(t, "[[:digit:]]x.", "(0-9 x all)")
	wantPattern(t, "[|)(*$^]", "$(-*^|")
}

func TestGroupsNumbers(t *testing.T) {
	for _, c := range []struct {
		p, root string
		groups  int
	}{
		{"a", "a", 0},
		{"(?:a)(?:b)", "(<a> <b>)", 0},
		{"(a)", "1<a>", 1},
		{"(a)(b)(c)", "(1<a> 2<b> 3<c>)", 3},
		{"(a)|(b)|(c)", "[1<a>|2<b>|3<c>]", 3},
		{"(((a)))", "1<2<3<a>>>", 3},
		{"((a)(b))(c)", "(1<(2<a> 3<b>)> 4<c>)", 4},
		{"(a)((b)(c))", "(1<a> 2<(3<b> 4<c>)>)", 4},
		{"((a)|((b)))(c)", "(1<[2<a>|3<4<b>>]> 5<c>)", 5},
		{"(((a)b)c)((d))", "(1<(2<(3<a> b)> c)> 4<5<d>>)", 5},
		{"(?:(a))(?:b)(c)", "(<1<a>> <b> 2<c>)", 2},
		{"(?:(a)|(?:(b)))*(c)+", "(<[1<a>|<2<b>>]>{0,-1} 3<c>{1,-1})", 3},
		{"(a){3}(b){0}(c)?", "(1<a>{3,3} 2<b>{0,0} 3<c>{0,1})", 3},
		{"\\((a)[(](b)", "(( 1<a> ( 2<b>)", 2},
	} {
		wantPattern(t, c.p, c.root)
		got, _, _ := parse.Of(c.p)
		if got.Groups != c.groups {
			t.Errorf("Of(%q): %d groups, want %d", c.p, got.Groups, c.groups)
		}
	}
}

func TestStartAndEnd(t *testing.T) {
	wantWhole(t, "a", false, false, "a")
	wantWhole(t, "^a", true, false, "a")
	wantWhole(t, "a$", false, true, "a")
	wantWhole(t, "^a$", true, true, "a")
	// They belong to the whole pattern, not to the concatenation beside them.
	wantWhole(t, "^a|b", true, false, "[a|b]")
	wantWhole(t, "a|b$", false, true, "[a|b]")
	wantWhole(t, "^a|b$", true, true, "[a|b]")
	wantWhole(t, "^ab|cd|ef$", true, true, "[(a b)|(c d)|(e f)]")
	wantWhole(t, "^(a|b)*$", true, true, "1<[a|b]>{0,-1}")
	wantWhole(t, "^a*$", true, true, "a{0,-1}")
	// These are sets.
	wantWhole(t, "\\^a", false, false, "(^ a)")
	wantWhole(t, "a\\$", false, false, "(a $)")
	wantWhole(t, "^\\^", true, false, "^")
	wantWhole(t, "\\$$", false, true, "$")
	wantWhole(t, "[$]", false, false, "$")
	wantWhole(t, "^[$^]$", true, true, "$^")
	wantWhole(t, "^[^a]$", true, true, runs(byteset.Of('a').Not()))
}

// nodes are n and all nodes within it.
func nodes(n tree.Node) []tree.Node {
	all := []tree.Node{n}
	for _, x := range n.L {
		all = append(all, nodes(x)...)
	}
	return all
}

// overwrite writes something else into each node of l.
func overwrite(l []tree.Node) {
	for i := range l {
		l[i] = tree.Node{Kind: 42}
	}
}

// TestResultsAreNew asks that the lists of a result share no memory with each
// other, not even behind their ends, and none with another result.
func TestResultsAreNew(t *testing.T) {
	for _, p := range []string{
		"a|b|c", "abc", "((a)(b)|(?:c|d|e)*fgh|(x))+y|z|w", "a*b*c*|(a)(b)(c)(d)(e)", "(?:(?:(a|b|c)))",
	} {
		first, _, _ := parse.Of(p)
		want := show(first.Root)
		for _, n := range nodes(first.Root) {
			overwrite(n.L[len(n.L):cap(n.L)])
		}
		if got := show(first.Root); got != want {
			t.Errorf("Of(%q) has lists that share memory behind their ends: %s, was %s", p, got, want)
		}
		all := nodes(first.Root)
		for i, n := range all {
			for _, x := range all[:i] {
				if len(n.L) > 0 && len(x.L) > 0 && &n.L[0] == &x.L[0] {
					t.Errorf("Of(%q) has one list twice", p)
				}
			}
		}
		second, _, _ := parse.Of(p)
		for _, n := range nodes(second.Root) {
			overwrite(n.L[:cap(n.L)])
		}
		if got := show(first.Root); got != want {
			t.Errorf("Of(%q) shares memory with a later result: %s, was %s", p, got, want)
		}
		wantWhole(t, p, false, false, want)
	}
}

func ExampleOf() {
	p, n, errno := parse.Of("^a|b$")
	fmt.Println(p.Start, p.End, n, errno == api.OK)
	for _, x := range p.Root.L {
		fmt.Println(x.Kind, string(x.Set.List()))
	}
	// Output:
	// true true 5 true
	// 1 a
	// 1 b
}
