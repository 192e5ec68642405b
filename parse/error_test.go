package parse_test

import (
	"strings"
	"testing"

	"catchpole/api"
	"catchpole/parse"
	"catchpole/tree"
)

// wantError asks for that error at that offset, and for no pattern beside it.
func wantError(t *testing.T, p string, at int, want api.Errno) {
	t.Helper()
	got, n, errno := parse.Of(p)
	if errno != want || n != at {
		t.Errorf("Of(%q): %d, %v, want %d, %v", p, n, errno, at, want)
	}
	if got.Start || got.End || got.Groups != 0 || len(got.Root.L) > 0 || !tree.Same(got.Root, tree.Node{}) {
		t.Errorf("Of(%q) with %v: %+v", p, errno, got)
	}
}

// A fault is a text without the form of a pattern, and its offset.
type fault struct {
	p  string
	at int
}

// faultsAt are faults at a token: what stands behind it does not matter, unless
// nothing does and it is a $.
func faultsAt() []fault {
	return []fault{
		// A missing piece.
		{"|", 0}, {"||", 0}, {"|a", 0}, {"a||", 2}, {"a||b", 2}, {"a*||b", 3}, {"ab|c||d", 5}, {"(a)||", 4},
		{"()", 1}, {"(|", 1}, {"(|a)", 1}, {"(a|)", 3}, {"(a||b)", 3}, {"(a*|)", 4}, {"a()b", 2}, {"(a)()", 4},
		{"(?:)", 3}, {"(?:|", 3}, {"(?:|a)", 3}, {"(?:a|)", 5}, {"(?:a||b)", 5}, {"a(?:)b", 4}, {"(?:a)(?:)", 8},
		{"(())", 2}, {"((|a))", 2}, {"((a)|)", 5}, {"(?:())", 4}, {"a|()", 3}, {"a|)", 2}, {"[|)]|)", 5},
		// A repetition without a piece.
		{"*", 0}, {"+a", 0}, {"?", 0}, {"{2}", 0}, {"{2,}a", 0}, {"{2,3}*", 0}, {"*)", 0}, {"*|a", 0},
		{"a|*", 2}, {"a|+b", 2}, {"a|{2}", 2}, {"a*|?", 3}, {"a|b|*c", 4},
		{"(*", 1}, {"(+a)", 1}, {"({2})", 1}, {"(a|*)", 3}, {"(?:*a)", 3}, {"(?:?)", 3}, {"(?:{1,2})", 3}, {"(?:a|*)", 5},
		{"((*a))", 2}, {"(?:(+a))", 4}, {"(a)|*", 4}, {"a(*)", 2},
		// A second repetition.
		{"a**", 2}, {"a*+", 2}, {"a+?", 2}, {"a?*b", 2}, {"a{2}{3}", 4}, {"a{2}*", 4}, {"a*{2}", 2}, {"a***", 2},
		{"[ab]?*", 5}, {"\\*+*", 3}, {".{2,3}{4,5}", 6}, {"(a)*?", 4}, {"(a*)**", 5}, {"(?:a)+{2,3}", 6}, {"(?:a+)?+", 7},
		{"a+b++c", 4}, {"ab|c**", 5}, {"(a**)", 3}, {"(?:a**)", 5}, {"(a)*(b)**", 8},
		// A ^ elsewhere.
		{"a^", 1}, {"a^b", 1}, {"a|^", 2}, {"a|^b", 2}, {"a^|b", 1}, {"a|b^", 3}, {"a*^", 2}, {"a^*", 1}, {"a^a|b", 1},
		{"(^", 1}, {"(^a)", 1}, {"(a^)", 2}, {"(a|^b)", 3}, {"(a^|b)", 2}, {"(?:^a)", 3}, {"(?:a^)", 4}, {"((^a))", 2},
		{"(a)^", 3}, {"(?:a)^", 5}, {"a(^b)", 2}, {"|^", 0}, {"\\^^", 2}, {"[^a]^", 4},
		// A $ elsewhere.
		{"$a", 0}, {"$$", 0}, {"$|a", 0}, {"$*", 0}, {"$)", 0}, {"$^", 0}, {"$(a)", 0},
		{"a$b", 1}, {"a$$", 1}, {"a$|b", 1}, {"a$*", 1}, {"a$)", 1}, {"a$^", 1}, {"a$(b)", 1}, {"a*$b", 2}, {"a$b$", 1},
		{"a|$b", 2}, {"a|$|b", 2}, {"a|$$", 2}, {"a|b$c", 3}, {"a|b$|c", 3},
		{"($)", 1}, {"($a)", 1}, {"(a$)", 2}, {"(a$|b)", 2}, {"(a|$)", 3}, {"(a|b$)", 4}, {"(a$b)", 2}, {"($$", 1}, {"(a$$", 2},
		{"(?:$)", 3}, {"(?:a$)", 4}, {"((a$))", 3}, {"(a)$(b)", 3}, {"\\$$a", 2}, {"[$]$a", 3},
		// A ) that closes nothing.
		{")", 0}, {")(", 0}, {")a", 0}, {"))", 0}, {"a)", 1}, {"a)b", 1}, {"a*)", 2}, {"ab|c)", 4}, {"[)])", 3}, {"\\))", 2},
		{"(a))", 3}, {"(?:a))", 5}, {"((a)))", 5}, {"(a)b)", 4}, {"(a)*)", 4}, {"(?:(a)))", 7},
		// The first one of several.
		{"a**)", 2}, {")**", 0}, {"a||^(", 2}, {"(^*$)", 1}, {"a)(", 1}, {"a|)|*", 2}, {"a$^**", 1},
	}
}

// faultsAtEnd are faults because the tokens end too early.
func faultsAtEnd() []fault {
	return []fault{
		{"", 0}, {"a|", 2}, {"a*|", 3}, {"ab|c|", 5}, {"(a)|", 4}, {"[a|]|", 5},
		{"(", 1}, {"((", 2}, {"(a", 2}, {"(ab", 3}, {"(a|", 3}, {"(a|b", 4}, {"(a*", 3}, {"(a{2,3}", 7}, {"([a-c]{2,3}", 11},
		{"(?:", 3}, {"(?:a", 4}, {"(?:a|", 5}, {"(?:a+", 5}, {"(?:(", 4}, {"((?:", 4}, {"(?:(?:a", 7},
		{"((a)", 4}, {"((a)*", 5}, {"(a(b)", 5}, {"(?:(a)", 6}, {"((?:a)", 6}, {"(a)(b", 5}, {"(a)(", 4}, {"a(", 2}, {"a|(", 3},
		{"(\\)", 3}, {"([)]", 4}, {"(\\$", 3}, {"([$]", 4},
	}
}

func TestFaultAtToken(t *testing.T) {
	for _, c := range faultsAt() {
		wantError(t, c.p, c.at, api.EFORM)
		for _, behind := range []string{"a", "|", "(", "(?:", ")", "*", "^", "$", "a$", "|b)c*", "$$", ")))"} {
			wantError(t, c.p+behind, c.at, api.EFORM)
		}
		wantError(t, "^"+c.p, 1+c.at, api.EFORM)
		wantError(t, "x|"+c.p, 2+c.at, api.EFORM)
		wantError(t, "(x)*|yz|"+c.p, 8+c.at, api.EFORM)
		if strings.HasPrefix(c.p[c.at:], "$") {
			continue
		}
		// Nothing behind the fault is needed for it.
		for _, behind := range []string{"$", "a$", "$a"} {
			wantError(t, c.p[:c.at]+token1(c.p[c.at:])+behind, c.at, api.EFORM)
		}
		wantError(t, c.p[:c.at]+token1(c.p[c.at:]), c.at, api.EFORM)
	}
}

// token1 is the first token of p, which is no set.
func token1(p string) string {
	if p[0] == '{' {
		return p[:strings.IndexByte(p, '}')+1]
	}
	return p[:1]
}

func TestFaultAtEnd(t *testing.T) {
	for _, c := range faultsAtEnd() {
		wantError(t, c.p, c.at, api.EFORM)
		wantError(t, c.p+"$", c.at, api.EFORM)
		wantError(t, "^"+c.p, 1+c.at, api.EFORM)
		wantError(t, "^"+c.p+"$", 1+c.at, api.EFORM)
		wantError(t, "(?:x|"+c.p, 5+c.at, api.EFORM)
		wantError(t, "(?:x|"+c.p+"$", 5+c.at, api.EFORM)
	}
	wantError(t, "", 0, api.EFORM)
	wantError(t, "^", 1, api.EFORM)
	wantError(t, "$", 0, api.EFORM)
	wantError(t, "^$", 1, api.EFORM)
}

// TestSecondStart asks for a ^ behind Start, and a $ ahead of End.
func TestSecondStart(t *testing.T) {
	wantError(t, "^^", 1, api.EFORM)
	wantError(t, "^^a", 1, api.EFORM)
	wantError(t, "^^$", 1, api.EFORM)
	wantError(t, "^^^", 1, api.EFORM)
	wantError(t, "^*", 1, api.EFORM)
	wantError(t, "^{2}a", 1, api.EFORM)
	wantError(t, "^a^", 2, api.EFORM)
	wantError(t, "^a|^b", 3, api.EFORM)
	wantError(t, "^(^a)", 2, api.EFORM)
	wantError(t, "^$$", 1, api.EFORM)
	wantError(t, "^$a", 1, api.EFORM)
	wantError(t, "a$$", 1, api.EFORM)
	wantError(t, "a$|b$", 1, api.EFORM)
	wantError(t, "(a$)$", 2, api.EFORM)
	wantError(t, "$$$", 0, api.EFORM)
}

// flaws are texts with an error of token.Cut at the first byte.
func flaws() map[string]api.Errno {
	return map[string]api.Errno{
		"\\":      api.EFORM,
		"\\a":     api.EFORM,
		"\\1":     api.EBACK,
		"\\9a":    api.EBACK,
		"[":       api.EFORM,
		"[]":      api.EFORM,
		"[b-a]":   api.EFORM,
		"[[:no:]": api.EFORM,
		"[[.a.]]": api.EBACK,
		"[[=a=]]": api.EBACK,
		"{":       api.EFORM,
		"{a}":     api.EFORM,
		"{3,2}":   api.EFORM,
		"{256}":   api.ELARGE,
		"{1,256":  api.ELARGE,
	}
}

// TestTokensFirst asks that an error of token.Cut is told with its offset,
// whatever is wrong with the tokens ahead of it.
func TestTokensFirst(t *testing.T) {
	for flaw, errno := range flaws() {
		for _, ahead := range []string{
			"", "a", "^", "$", "a|b", "(a)", "(?:a)*", "a*",
			groups(api.MaxGroups + 1), brackets(api.MaxDepth, "a"),
		} {
			wantError(t, ahead+flaw, len(ahead), errno)
		}
		for _, c := range append(faultsAt(), faultsAtEnd()...) {
			wantError(t, c.p+flaw, len(c.p), errno)
		}
		// The first one of two.
		wantError(t, "*\\1"+flaw, 1, api.EBACK)
		wantError(t, "*[b-a]"+flaw, 1, api.EFORM)
		wantError(t, "*{256}"+flaw, 1, api.ELARGE)
	}
}

func TestLength(t *testing.T) {
	for _, part := range []string{"a", "(", ")", "|", "*", "^", "$", "\\1", "[", "{256}", "()"} {
		for n := api.MaxText + 1; n < api.MaxText+5; n++ {
			wantError(t, strings.Repeat(part, n)[:n], api.MaxText, api.ELARGE)
		}
		wantError(t, strings.Repeat(part, 100000), api.MaxText, api.ELARGE)
	}
}

// groups are that many groups in a row.
func groups(count int) string { return strings.Repeat("(a)", count) }

// brackets are that many brackets around p.
func brackets(count int, p string) string { return around(count, "(?:", p, ")") }

// around is p with open and shut that many times around it.
func around(count int, open, p, shut string) string {
	return strings.Repeat(open, count) + p + strings.Repeat(shut, count)
}

// wantWithin asks that p is a valid pattern if it is within the limits, and
// ELARGE otherwise, with a ^ and a $ as well.
func wantWithin(t *testing.T, p string, within bool) {
	t.Helper()
	for _, whole := range []string{p, "^" + p, p + "$", "^" + p + "$"} {
		if len(whole) > api.MaxText {
			continue
		}
		if within {
			wantModel(t, whole)
		} else {
			wantError(t, whole, 0, api.ELARGE)
		}
	}
}

func TestMaxGroups(t *testing.T) {
	for count := 1; count < 2*api.MaxGroups; count++ {
		within := count <= api.MaxGroups
		wantWithin(t, groups(count), within)
		wantWithin(t, around(count, "(", "a", ")"), within)
		wantWithin(t, strings.Repeat("(a)|", count-1)+"(b)", within)
		wantWithin(t, "(?:(a)|b)*"+groups(count-1), within)
		wantWithin(t, "x(?:"+groups(count)+")y", within)
		wantWithin(t, "("+groups(count-1)+"z)+", within)
	}
	// Neither brackets nor sets are groups.
	wantWithin(t, groups(api.MaxGroups)+strings.Repeat("(?:a)", 100), true)
	wantWithin(t, groups(api.MaxGroups)+strings.Repeat("\\([(]", 100), true)
}

// TestMaxDepth goes to MaxDepth and beyond it by what adds one level or more
// each time.
func TestMaxDepth(t *testing.T) {
	for _, c := range []struct {
		open, shut string
		levels     int
	}{
		{"(?:", ")", 1},
		{"(?:", ")*", 2},
		{"(?:x", ")", 2},
		{"(?:", "x)", 2},
		{"(?:x|", ")", 2},
		{"(?:", "|x)", 2},
		{"(", "x)", 2},
		{"(?:xy|", "z)", 3},
		{"(?:x|y", "){2}", 4},
		{"(", "x|y){0,1}", 4},
	} {
		for inner := range c.levels {
			for count := range 1 + api.MaxDepth/c.levels + 1 {
				p := around(count, c.open, brackets(inner, "a"), c.shut)
				depth := 1 + inner + count*c.levels
				if depth < api.MaxDepth-4 || c.open == "(" && count > api.MaxGroups {
					continue
				}
				wantWithin(t, p, depth <= api.MaxDepth)
				wantWithin(t, p+"b", depth+1 <= api.MaxDepth)
				wantWithin(t, "b|"+p, depth+1 <= api.MaxDepth)
			}
		}
	}
}

// TestMaxCore asks for patterns of the greatest size. A pattern that is within
// the other limits has at most one node more than bytes, one more for an
// alternative at the root, and one more for each group: it does not reach
// MaxCore.
func TestMaxCore(t *testing.T) {
	for _, c := range []struct {
		p    string
		size int
	}{
		{strings.Repeat("a", 1024), 1025},
		{strings.Repeat("a*", 512), 1025},
		{strings.Repeat("aa|", 340) + "aaaa", 1026},
		{strings.Repeat("aaa*|", 204) + "aaaa", 1026},
		{strings.Repeat("(aa|bb)", 32) + strings.Repeat("c", 800), 1057},
		{strings.Repeat("(aa|bb)", 32) + strings.Repeat("cc|", 266) + "dd", 1058},
		{around(15, "(", strings.Repeat("c", 900), "a|dd)") + strings.Repeat("e", 34), 1025 + 15},
	} {
		if len(c.p) != api.MaxText {
			t.Errorf("Of(%q): a text of %d bytes", c.p, len(c.p))
		}
		wantModel(t, c.p)
		got, _, _ := parse.Of(c.p)
		if size := tree.Size(got.Root); size != c.size {
			t.Errorf("Of(%q): %d nodes, want %d", c.p, size, c.size)
		}
	}
}

// TestFormFirst asks that a fault of form is told where the limits are exceeded
// too.
func TestFormFirst(t *testing.T) {
	for _, large := range []string{
		groups(api.MaxGroups + 1), brackets(api.MaxDepth, "a"), around(100, "(", "a", ")"),
	} {
		wantError(t, large, 0, api.ELARGE)
		for _, c := range append(faultsAt(), faultsAtEnd()...) {
			wantError(t, large+"|"+c.p, len(large)+1+c.at, api.EFORM)
		}
		for _, c := range faultsAt() {
			wantError(t, c.p+large, c.at, api.EFORM)
			wantError(t, large+"|"+c.p+large, len(large)+1+c.at, api.EFORM)
		}
	}
}

// TestLongAndDeep asks for patterns that are as long or as deep as token.Cut
// accepts.
func TestLongAndDeep(t *testing.T) {
	most := api.MaxText
	for _, p := range []string{
		strings.Repeat("a", most),
		strings.Repeat("a*", most/2),
		strings.Repeat("a|", most/2-1) + "ab",
		strings.Repeat("(?:a|bc)*", most/9),
		"^" + strings.Repeat(".", most-2) + "$",
		strings.Repeat("[a-c]{2,3}", most/10),
	} {
		wantModel(t, p)
	}
	wantError(t, strings.Repeat("(", most), most, api.EFORM)
	wantError(t, strings.Repeat("(", most-1)+"$", most-1, api.EFORM)
	wantError(t, strings.Repeat("(?:", most/3), most/3*3, api.EFORM)
	wantError(t, strings.Repeat("(", most-1)+"a", most, api.EFORM)
	wantError(t, strings.Repeat("(", most-1)+"*", most-1, api.EFORM)
	wantError(t, strings.Repeat("(a|", most/3), most/3*3, api.EFORM)
	wantError(t, strings.Repeat("(", most/2)+strings.Repeat(")", most/2), most/2, api.EFORM)
	wantError(t, around(511, "(", "a", ")")+")", most-1, api.EFORM)
	wantError(t, "("+around(511, "(", "a", ")"), most, api.EFORM)
	wantError(t, around(511, "(", "a", ")"), 0, api.ELARGE)
	wantError(t, around(255, "(?:", "aaaa", ")"), 0, api.ELARGE)
	wantError(t, around(204, "(?:", "a*", ")*"), 0, api.ELARGE)
	wantError(t, strings.Repeat("(a)", most/3), 0, api.ELARGE)
	wantError(t, strings.Repeat("a|", most/2), most, api.EFORM)
	wantError(t, strings.Repeat("a", most-1)+"|", most, api.EFORM)
	wantError(t, strings.Repeat("a", most-1)+")", most-1, api.EFORM)
	for _, part := range []string{")", "|", "*", "$"} {
		wantError(t, strings.Repeat(part, most), 0, api.EFORM)
	}
	wantError(t, strings.Repeat("^", most), 1, api.EFORM)
}

// TestNothingIsKept asks for the same after other calls, those with errors among
// them.
func TestNothingIsKept(t *testing.T) {
	for range 3 {
		for _, p := range []string{"(a", "(a)(b", "[", groups(33), "a**", ""} {
			parse.Of(p)
			wantWhole(t, "^(a)|(b)$", true, true, "[1<a>|2<b>]")
			wantWhole(t, "c", false, false, "c")
		}
	}
}
