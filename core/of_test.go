package core_test

import (
	"fmt"
	"math"
	"math/rand"
	"slices"
	"strconv"
	"strings"
	"testing"

	"catchpole/api"
	"catchpole/byteset"
	"catchpole/core"
	"catchpole/parse"
	"catchpole/tree"
)

// root is the root of a pattern that is written as text.
func root(t *testing.T, pattern string) tree.Node {
	t.Helper()
	p, at, e := parse.Of(pattern)
	if e != api.OK {
		t.Fatalf("%q is no pattern: %d at %d", pattern, e, at)
	}
	return p.Root
}

// wantOf asks for the text of the core of a pattern.
func wantOf(t *testing.T, pattern, want string) {
	t.Helper()
	c, e := core.Of(root(t, pattern))
	if got := core.Text(c); got != want || e != api.OK {
		t.Errorf("Of %q: %q and %d, want %q", pattern, got, e, want)
	}
}

func TestOfEachKind(t *testing.T) {
	for _, c := range []struct{ pattern, want string }{
		{"a", "<61>"},
		{"[ab]", "<6162>"},
		{"[[:digit:]]", "<30313233343536373839>"},
		{"(a)", "(1:<61>)"},
		{"((a)(b))", "(1:((2:<61>).(3:<62>)))"},
		{"(a)|((b))", "((1:<61>)|(2:(3:<62>)))"},
		{"(?:a)", "<61>"},
		{"(?:(?:(?:a)))", "<61>"},
		{"(?:(a))", "(1:<61>)"},
		{"((?:a))", "(1:<61>)"},
		{"(?:ab)", "(<61>.<62>)"},
		{"ab", "(<61>.<62>)"},
		{"aa", "(<61>.<61>)"},
		{"abc", "(<61>.(<62>.<63>))"},
		{"abcd", "(<61>.(<62>.(<63>.<64>)))"},
		{"(?:ab)c", "((<61>.<62>).<63>)"},
		{"a(?:bc)", "(<61>.(<62>.<63>))"},
		{"a(?:bc)d", "(<61>.((<62>.<63>).<64>))"},
		{"(ab)c(d)", "((1:(<61>.<62>)).(<63>.(2:<64>)))"},
		{"a|b", "(<61>|<62>)"},
		{"a|a", "(<61>|<61>)"},
		{"a|b|c", "(<61>|(<62>|<63>))"},
		{"a|b|c|d", "(<61>|(<62>|(<63>|<64>)))"},
		{"(?:a|b)|c", "((<61>|<62>)|<63>)"},
		{"a|(?:b|c)", "(<61>|(<62>|<63>))"},
		{"a|(?:b|c)|d", "(<61>|((<62>|<63>)|<64>))"},
		{"ab|c", "((<61>.<62>)|<63>)"},
		{"a|bc|d", "(<61>|((<62>.<63>)|<64>))"},
		{"(a|b)c", "((1:(<61>|<62>)).<63>)"},
		{"a(?:b|c)d", "(<61>.((<62>|<63>).<64>))"},
		{"^a$", "<61>"},
	} {
		wantOf(t, c.pattern, c.want)
	}
	all := core.Core{Kind: 2, Set: byteset.All()}
	wantOf(t, ".", modelText(all))
}

// TestOfBounds asks for each pair of bounds that differs in what comes of it.
func TestOfBounds(t *testing.T) {
	for _, c := range []struct{ bounds, want string }{
		{"{0}", "1"},
		{"{0,0}", "1"},
		{"*", "(x*)"},
		{"{0,}", "(x*)"},
		{"+", "(x.((~x)*))"},
		{"{1,}", "(x.((~x)*))"},
		{"{2,}", "(x.((~x).((~x)*)))"},
		{"{3,}", "(x.((~x).((~x).((~x)*))))"},
		{"{1}", "x"},
		{"{1,1}", "x"},
		{"{2}", "(x.(~x))"},
		{"{3}", "(x.((~x).(~x)))"},
		{"{4,4}", "(x.((~x).((~x).(~x))))"},
		{"?", "(x|1)"},
		{"{0,1}", "(x|1)"},
		{"{0,2}", "((x.((~x)|1))|1)"},
		{"{0,3}", "((x.(((~x).((~x)|1))|1))|1)"},
		{"{0,4}", "((x.(((~x).(((~x).((~x)|1))|1))|1))|1)"},
		{"{1,2}", "(x.((~x)|1))"},
		{"{1,3}", "(x.(((~x).((~x)|1))|1))"},
		{"{1,4}", "(x.(((~x).(((~x).((~x)|1))|1))|1))"},
		{"{2,3}", "(x.((~x).((~x)|1)))"},
		{"{2,4}", "(x.((~x).(((~x).((~x)|1))|1)))"},
		{"{3,5}", "(x.((~x).((~x).(((~x).((~x)|1))|1))))"},
	} {
		for _, x := range []struct{ pattern, want string }{
			{"a", "<61>"},
			{"[ab]", "<6162>"},
			{"(a)", "(1:<61>)"},
			{"(?:a)", "<61>"},
			{"(?:ab)", "(<61>.<62>)"},
			{"(?:a|b)", "(<61>|<62>)"},
			{"(a|(b))", "(1:(<61>|(2:<62>)))"},
			{"(?:(a)*)", "((1:<61>)*)"},
			{"(?:(a){2})", "((1:<61>).(~(1:<61>)))"},
			{"(?:a?)", "(<61>|1)"},
			{"(?:a{0})", "1"},
			{"(a{1,2})", "(1:(<61>.((~<61>)|1)))"},
		} {
			want := strings.ReplaceAll(c.want, "x", x.want)
			wantOf(t, x.pattern+c.bounds, want)
			wantOf(t, "c"+x.pattern+c.bounds+"d", "(<63>.("+want+".<64>))")
			wantOf(t, "c|"+x.pattern+c.bounds, "(<63>|"+want+")")
		}
	}
}

func TestOfNested(t *testing.T) {
	for _, c := range []struct{ pattern, want string }{
		{"(a*)*", "((1:(<61>*))*)"},
		{"(?:a*)+", "((<61>*).((~(<61>*))*))"},
		{"(?:a+)*", "((<61>.((~<61>)*))*)"},
		{"(?:a{2}){2}", "((<61>.(~<61>)).(~(<61>.(~<61>))))"},
		{"(?:a{2}){1}", "(<61>.(~<61>))"},
		{"(?:a{1}){2}", "(<61>.(~<61>))"},
		{"((a){2}b){2}", "((1:(((2:<61>).(~(2:<61>))).<62>)).(~(1:(((2:<61>).(~(2:<61>))).<62>))))"},
		{"(?:(a)|b)*", "(((1:<61>)|<62>)*)"},
		{"(?:(a)|b)+", "(((1:<61>)|<62>).((~((1:<61>)|<62>))*))"},
		{"((?:(a)?){0,2}){0}b", "(1.<62>)"},
		{"(a){0}(b)", "(1.(2:<62>))"},
		{"(?:(a)?){0,2}", "((((1:<61>)|1).((~((1:<61>)|1))|1))|1)"},
		{"a*b+c?", "((<61>*).((<62>.((~<62>)*)).(<63>|1)))"},
		{"(a)(b)*(c){2}", "((1:<61>).(((2:<62>)*).((3:<63>).(~(3:<63>)))))"},
	} {
		wantOf(t, c.pattern, c.want)
	}
}

// modelOf is the core of a node, as the chapter tells it, however large it is.
func modelOf(n tree.Node) core.Core {
	switch n.Kind {
	case 1:
		return core.Core{Kind: 2, Set: n.Set}
	case 2, 3:
		if len(n.L) == 1 {
			return modelOf(n.L[0])
		}
		others := tree.Node{Kind: n.Kind, L: n.L[1:]}
		return core.Core{Kind: n.Kind + 1, L: []core.Core{modelOf(n.L[0]), modelOf(others)}}
	case 4:
		return modelRepetition(modelOf(n.L[0]), n.Lo, n.Hi, false)
	case 5:
		return group(n.N, modelOf(n.L[0]))
	}
	return modelOf(n.L[0])
}

// modelRepetition is the core of x from lo to hi times: renewed, if other copies
// precede it.
func modelRepetition(x core.Core, lo, hi int, behind bool) core.Core {
	c := x
	if behind {
		c = renewal(x)
	}
	switch {
	case hi == 0 && !behind:
		return empty()
	case lo == 1 && hi == 1:
		return c
	case lo > 0 && hi == -1:
		return concat(c, modelRepetition(x, lo-1, hi, true))
	case lo > 0:
		return concat(c, modelRepetition(x, lo-1, hi-1, true))
	case hi == -1:
		return star(c)
	case hi == 1:
		return alternative(c, empty())
	}
	return alternative(concat(c, modelRepetition(x, 0, hi-1, true)), empty())
}

// modelSize is the Size of the core of a node, or huge if it is that or more.
func modelSize(n tree.Node) int {
	const huge = 1 << 30
	if n.Kind == 4 && n.Hi == 0 {
		return 1
	}
	size := 0
	for _, x := range n.L {
		size = min(huge, size+modelSize(x))
	}
	switch n.Kind {
	case 1, 5:
		return min(huge, size+1)
	case 2, 3:
		return min(huge, size+len(n.L)-1)
	case 4:
		return min(huge, modelTimes(size, n.Lo, n.Hi))
	}
	return size
}

// modelTimes is the Size of a core of the size x from lo to hi times.
func modelTimes(x, lo, hi int) int {
	// Each copy but the first one is renewed; between two things there is a
	// concatenation.
	switch {
	case hi == -1 && lo == 0:
		return 1 + x
	case hi == -1:
		return lo*x + (lo - 1) + (1 + 1 + x) + lo
	}
	// An optional copy has an alternative and an empty string.
	return hi*x + (hi - 1) + (hi - 1) + 2*(hi-lo)
}

// wantModel asks for the core of n as the model tells it.
func wantModel(t *testing.T, n tree.Node) {
	t.Helper()
	c, e := core.Of(n)
	if modelSize(n) > api.MaxCore {
		if e != api.ELARGE || !equal(c, core.Core{}) {
			t.Errorf("Of a node whose core has %d parts: %s and %d", modelSize(n), show(c), e)
		}
		return
	}
	want := modelOf(n)
	if e != api.OK || !equal(c, want) {
		t.Errorf("Of a node: %s and %d, want %s", show(c), e, show(want))
	}
	if !core.Good(c) || core.Size(c) != modelSize(n) {
		t.Errorf("Of a node: %v and %d parts, want %d", core.Good(c), core.Size(c), modelSize(n))
	}
}

// TestOfAllBounds asks for all bounds that are small, and for some that are not.
func TestOfAllBounds(t *testing.T) {
	numbers := []int{0, 1, 2, 3, 4, 5, 6, 7, 8, 9, 10, 31, 32, 33, 100, 199, 254, 255}
	for _, x := range []string{"a", "(a)", "(?:ab)", "(?:(a)|b*)", "(?:a{2,3})", "(?:a{0})", "(?:(a)+)"} {
		n := root(t, x)
		for _, lo := range numbers {
			for _, hi := range append(numbers, -1) {
				if lo <= hi || hi == -1 {
					wantModel(t, tree.Node{Kind: 4, Lo: lo, Hi: hi, L: []tree.Node{n}})
				}
			}
		}
	}
}

// drawn is a text of a pattern that is drawn, with as many levels at most.
func drawn(r *rand.Rand, levels int) string {
	if levels == 0 || r.Intn(5) == 0 {
		return []string{"a", "b", "[ab]", "."}[r.Intn(4)]
	}
	switch r.Intn(5) {
	case 0:
		return drawn(r, levels-1) + drawn(r, levels-1)
	case 1:
		return drawn(r, levels-1) + "|" + drawn(r, levels-1) + "|" + drawn(r, levels-1)
	case 2:
		return "(" + drawn(r, levels-1) + ")"
	}
	lo := r.Intn(4) * r.Intn(4)
	bounds := []string{"*", "+", "?", fmt.Sprintf("{%d}", lo), fmt.Sprintf("{%d,}", lo), fmt.Sprintf("{%d,%d}", lo, lo+r.Intn(3))}
	return []string{"(", "(?:"}[r.Intn(2)] + drawn(r, levels-1) + ")" + bounds[r.Intn(len(bounds))]
}

func TestOfDrawnPatterns(t *testing.T) {
	r := rand.New(rand.NewSource(8))
	small, large := 0, 0
	for range 5000 {
		p, _, e := parse.Of(drawn(r, 8))
		if e != api.OK {
			continue
		}
		wantModel(t, p.Root)
		if modelSize(p.Root) > api.MaxCore {
			large++
		} else {
			small++
		}
	}
	// Enough of both were drawn.
	if small < 1000 || large < 50 {
		t.Errorf("%d small ones and %d large ones", small, large)
	}
}

// padded is n with more sets beside it, and with a group around them if need be:
// so that the core has that size.
func padded(t *testing.T, n tree.Node, size int) tree.Node {
	t.Helper()
	more := size - modelSize(n)
	if more < 3 {
		t.Fatalf("there is no room for %d more", more)
	}
	l := []tree.Node{{Kind: 6, L: []tree.Node{n}}}
	for range more / 2 {
		l = append(l, tree.Node{Kind: 1, Set: of("z")})
	}
	all := tree.Node{Kind: 2, L: l}
	if more%2 == 0 {
		return all
	}
	groups := 0
	walkTree(&n, func(x *tree.Node) {
		if x.Kind == 5 {
			groups++
		}
	})
	l[len(l)-1] = tree.Node{Kind: 5, N: groups + 1, L: []tree.Node{l[len(l)-1]}}
	return all
}

// walkTree does something with each node of n.
func walkTree(n *tree.Node, do func(*tree.Node)) {
	do(n)
	for i := range n.L {
		walkTree(&n.L[i], do)
	}
}

// TestOfMaxCore asks that a Size of MaxCore is no error, and one more is.
func TestOfMaxCore(t *testing.T) {
	for _, pattern := range []string{
		"a", "(a)", "a|b", "(?:a|b)(c|d)*", "a{255}", "a{255,}", "a{0,255}", "a{200,255}", "(a){255}", "(a){100,}",
		"(?:a{13}){14}", "(?:(a){13,}){14,}", "(?:a{0,13}){0,14}", "(?:(?:a{4}){4,}){4,5}", "(?:(?:a{255}){255}){0}", "(?:a{0}){255}",
		"(?:a*){255}", "(?:a?){255}", "((a)|(b)){60,}", strings.Repeat("a", 300) + "{255}",
	} {
		n := root(t, pattern)
		for size := api.MaxCore - 3; size <= api.MaxCore+3; size++ {
			x := padded(t, n, size)
			if modelSize(x) != size {
				t.Fatalf("padded to %d, not to %d", modelSize(x), size)
			}
			wantModel(t, x)
			c, e := core.Of(x)
			if size <= api.MaxCore && (e != api.OK || core.Size(c) != size) {
				t.Errorf("Of %q with %d parts: %d parts and %d", pattern, size, core.Size(c), e)
			}
			if size > api.MaxCore && (e != api.ELARGE || !equal(c, core.Core{})) {
				t.Errorf("Of %q with %d parts: %s and %d", pattern, size, show(c), e)
			}
		}
	}
	// Of m copies of s parts come m (s + 2) - 2 ones: MaxCore are 2 times 7 times
	// 11 times 13 less 2.
	for _, m := range []int{2, 11, 22, 26, 77, 91, 143, 182} {
		s := 2002/m - 2
		n := tree.Node{Kind: 6, L: []tree.Node{padded(t, root(t, "(a)"), s)}}
		c, e := core.Of(tree.Node{Kind: 4, Lo: m, Hi: m, L: []tree.Node{n}})
		if e != api.OK || core.Size(c) != api.MaxCore {
			t.Errorf("Of %d times %d parts: %d parts and %d", m, s, core.Size(c), e)
		}
		wantELARGE(t, tree.Node{Kind: 4, Lo: m, Hi: -1, L: []tree.Node{n}})
		wantELARGE(t, tree.Node{Kind: 4, Lo: m, Hi: m + 1, L: []tree.Node{n}})
		n = tree.Node{Kind: 6, L: []tree.Node{padded(t, root(t, "(a)"), s+1)}}
		wantELARGE(t, tree.Node{Kind: 4, Lo: m, Hi: m, L: []tree.Node{n}})
	}
}

func wantELARGE(t *testing.T, n tree.Node) {
	t.Helper()
	if c, e := core.Of(n); e != api.ELARGE || !equal(c, core.Core{}) {
		t.Errorf("Of a node whose core has %d parts: %s and %d", modelSize(n), show(c), e)
	}
}

func wantEARG(t *testing.T, what string, n tree.Node) {
	t.Helper()
	if c, e := core.Of(n); e != api.EARG || !equal(c, core.Core{}) {
		t.Errorf("Of %s: %s and %d", what, show(c), e)
	}
}

// TestOfHugeCores asks of cores of which nobody could make all parts.
func TestOfHugeCores(t *testing.T) {
	for _, bounds := range []string{"{255}", "{255,}", "{0,255}", "{100,255}", "+", "{1,2}", "{0,2}", "{2}"} {
		pattern := strings.Repeat("(?:", 27) + "(a)" + strings.Repeat(")"+bounds, 27)
		wantELARGE(t, root(t, pattern))
		wantELARGE(t, root(t, "b(?:"+pattern+")c"))
		wantOf(t, "(?:"+pattern+"){0}b", "(1.<62>)")
		wantOf(t, "a|(?:b(?:"+pattern+"|c)){0,0}", "(<61>|1)")
	}
	// The least core of all, as often as may be.
	wantELARGE(t, root(t, strings.Repeat("(?:", 30)+"a{0}"+strings.Repeat("){255}", 30)))
	l := slices.Repeat([]tree.Node{{Kind: 1, Set: of("a")}}, api.MaxCore-1)
	wantELARGE(t, tree.Node{Kind: 2, L: l})
	wantELARGE(t, tree.Node{Kind: 3, L: l})
	wantELARGE(t, tree.Node{Kind: 2, L: l[:1001]})
	wantELARGE(t, tree.Node{Kind: 3, L: l[:1001]})
	wantModel(t, tree.Node{Kind: 2, L: l[:1000]})
	wantModel(t, tree.Node{Kind: 3, L: l[:1000]})
}

// broken are nodes that are not valid.
func broken() map[string]tree.Node {
	a := tree.Node{Kind: 1, Set: of("a")}
	pair := []tree.Node{a, a}
	return map[string]tree.Node{
		"no node":                      {},
		"kind 7":                       {Kind: 7, L: []tree.Node{a}},
		"kind -1":                      {Kind: -1, L: []tree.Node{a}},
		"a far kind":                   {Kind: math.MinInt, Set: of("a")},
		"an empty set":                 {Kind: 1},
		"a set with a node":            {Kind: 1, Set: of("a"), L: []tree.Node{a}},
		"a set with a number":          {Kind: 1, Set: of("a"), N: 1},
		"a set with a bound":           {Kind: 1, Set: of("a"), Hi: -1},
		"a concatenation of none":      {Kind: 2},
		"a concatenation of one":       {Kind: 2, L: []tree.Node{a}},
		"a concatenation within one":   {Kind: 2, L: []tree.Node{a, {Kind: 2, L: pair}}},
		"an alternative within that":   {Kind: 2, L: []tree.Node{{Kind: 3, L: pair}, a}},
		"an alternative of none":       {Kind: 3},
		"an alternative of one":        {Kind: 3, L: []tree.Node{a}},
		"an alternative within one":    {Kind: 3, L: []tree.Node{a, {Kind: 3, L: pair}}},
		"a concatenation with a set":   {Kind: 2, Set: of("b"), L: pair},
		"a repetition of none":         {Kind: 4, Lo: 2, Hi: 3},
		"a repetition of two":          {Kind: 4, Lo: 2, Hi: 3, L: pair},
		"a repetition of a repetition": {Kind: 4, Hi: -1, L: []tree.Node{{Kind: 4, Hi: -1, L: []tree.Node{a}}}},
		"a repetition of none of that": {Kind: 4, L: []tree.Node{{Kind: 1}}},
		"a wrong order of the bounds":  {Kind: 4, Lo: 3, Hi: 2, L: []tree.Node{a}},
		"a bound below 0":              {Kind: 4, Lo: -1, Hi: 2, L: []tree.Node{a}},
		"a bound of -2":                {Kind: 4, Hi: -2, L: []tree.Node{a}},
		"a bound above MaxCount":       {Kind: 4, Hi: api.MaxCount + 1, L: []tree.Node{a}},
		"a huge bound":                 {Kind: 4, Lo: math.MaxInt, Hi: math.MaxInt, L: []tree.Node{a}},
		"a huge least bound":           {Kind: 4, Lo: math.MaxInt, Hi: -1, L: []tree.Node{a}},
		"a group of none":              {Kind: 5, N: 1},
		"a group of two":               {Kind: 5, N: 1, L: pair},
		"a bracket of none":            {Kind: 6},
		"a bracket of two":             {Kind: 6, L: pair},
		"a bracket with a number":      {Kind: 6, N: 1, L: []tree.Node{a}},
		"a bracket of an empty set":    {Kind: 6, L: []tree.Node{{Kind: 1}}},
	}
}

func TestOfBrokenNodes(t *testing.T) {
	a := tree.Node{Kind: 1, Set: of("a")}
	long := slices.Repeat([]tree.Node{a}, 1500)
	for what, n := range broken() {
		wantEARG(t, what, n)
		wantEARG(t, what+" in a bracket", tree.Node{Kind: 6, L: []tree.Node{n}})
		wantEARG(t, what+" in a group", tree.Node{Kind: 5, N: 1, L: []tree.Node{n}})
		within := tree.Node{Kind: 6, L: []tree.Node{n}}
		wantEARG(t, what+" repeated", tree.Node{Kind: 4, Lo: 0, Hi: 0, L: []tree.Node{within}})
		// These are too large as well.
		wantEARG(t, what+" ahead of many", tree.Node{Kind: 2, L: append([]tree.Node{within}, long...)})
		wantEARG(t, what+" behind many", tree.Node{Kind: 2, L: append(slices.Clone(long), within)})
		wantEARG(t, what+" behind many others", tree.Node{Kind: 3, L: append(slices.Clone(long), within)})
	}
	wantELARGE(t, tree.Node{Kind: 2, L: long})
}

// TestOfWrongNumbers asks of nodes each of which is valid but for the numbers of
// the groups.
func TestOfWrongNumbers(t *testing.T) {
	a := tree.Node{Kind: 1, Set: of("a")}
	numbered := func(n int, x tree.Node) tree.Node { return tree.Node{Kind: 5, N: n, L: []tree.Node{x}} }
	for _, numbers := range [][]int{{0}, {2}, {-1}, {33}, {1, 1}, {2, 1}, {1, 3}, {2, 3}, {0, 1}, {1, 2, 2}, {1, 3, 2}, {1, 2, 4}, {3, 2, 1}, {1, 2, math.MaxInt}} {
		row := tree.Node{Kind: 2, L: []tree.Node{a}}
		inner := a
		for i := range numbers {
			row.L = append(row.L, numbered(numbers[i], a))
			inner = numbered(numbers[len(numbers)-1-i], inner)
		}
		wantEARG(t, fmt.Sprint("a row of the groups ", numbers), row)
		wantEARG(t, fmt.Sprint("the nested groups ", numbers), inner)
		wantEARG(t, fmt.Sprint("many more than the groups ", numbers), tree.Node{Kind: 2, L: append(row.L, slices.Repeat([]tree.Node{a}, 1500)...)})
	}
	for count := 2; count <= api.MaxGroups+2; count++ {
		row, inner, want := tree.Node{Kind: 2}, a, "<61>"
		for i := range count {
			row.L = append(row.L, numbered(i+1, a))
			inner, want = numbered(count-i, inner), "("+strconv.Itoa(count-i)+":"+want+")"
		}
		if count > api.MaxGroups {
			wantEARG(t, "a row of too many groups", row)
			wantEARG(t, "too many nested groups", inner)
			continue
		}
		wantModel(t, row)
		wantModel(t, inner)
		if c, _ := core.Of(inner); core.Text(c) != want {
			t.Errorf("Of %d nested groups: %q", count, core.Text(c))
		}
	}
}

// TestOfLimitsOfTrees asks of nodes that are valid but for their size or their
// depth.
func TestOfLimitsOfTrees(t *testing.T) {
	a := tree.Node{Kind: 1, Set: of("a")}
	bracket := func(times int, n tree.Node) tree.Node {
		for range times {
			n = tree.Node{Kind: 6, L: []tree.Node{n}}
		}
		return n
	}
	wantModel(t, bracket(api.MaxDepth-1, a))
	for _, times := range []int{api.MaxDepth, api.MaxDepth + 1, api.MaxCore, 65535} {
		wantEARG(t, "a deep node", bracket(times, a))
	}
	for _, count := range []int{api.MaxCore, api.MaxCore + 1, 100000, 1000000} {
		l := slices.Repeat([]tree.Node{a}, count)
		wantEARG(t, "a wide concatenation", tree.Node{Kind: 2, L: l})
		wantEARG(t, "a wide alternative", tree.Node{Kind: 3, L: l})
		wantEARG(t, "what is never repeated", tree.Node{Kind: 4, L: []tree.Node{bracket(1, tree.Node{Kind: 2, L: l})}})
	}
	// Many nodes, but few parts: most of them are never repeated.
	l := slices.Repeat([]tree.Node{a}, api.MaxCore-3)
	never := tree.Node{Kind: 4, L: []tree.Node{bracket(1, tree.Node{Kind: 2, L: l})}}
	if c, e := core.Of(never); e != api.OK || !equal(c, empty()) {
		t.Errorf("Of what is never repeated: %s and %d", show(c), e)
	}
	n := a
	for range 300 {
		n = tree.Node{Kind: 3, L: []tree.Node{bracket(1, n), bracket(1, n)}}
	}
	wantEARG(t, "shared nodes", n)
}

// TestOfRemains asks R4 and R5: what is given is not changed, and what is done
// with an answer is not to be seen elsewhere.
func TestOfRemains(t *testing.T) {
	for _, pattern := range []string{"a", "(a|bc)*(d){2,3}", "(?:(a){2}|b){0,3}c+", "(?:a{0}){3}", "abc|d|e"} {
		given, untouched := roomyTree(root(t, pattern)), root(t, pattern)
		c, e := core.Of(given)
		want := clone(c)
		other, _ := core.Of(given)
		walk(&other, func(x *core.Core) {
			for i := range x.L[:cap(x.L)] {
				// What is put over an element keeps the elements of that.
				x.L[:cap(x.L)][i].Kind, x.L[:cap(x.L)][i].N = 42, 43
			}
		})
		if e != api.OK || !equal(c, want) {
			t.Errorf("Of %q: an answer shares memory with another one", pattern)
		}
		if again, _ := core.Of(given); !equal(again, want) {
			t.Errorf("Of %q: an answer shares memory with an earlier one", pattern)
		}
		if !tree.Same(given, untouched) {
			t.Errorf("Of %q: the node was changed", pattern)
		}
		walkTree(&given, func(x *tree.Node) {
			for _, spare := range x.L[len(x.L):cap(x.L)] {
				if spare.Kind != 44 {
					t.Errorf("Of %q: the spare capacity was changed", pattern)
				}
			}
		})
	}
}

// roomyTree is n with spare capacity in each list, in which a mark stands.
func roomyTree(n tree.Node) tree.Node {
	l := make([]tree.Node, len(n.L)+2)
	for i, x := range n.L {
		l[i] = roomyTree(x)
	}
	for i := len(n.L); i < len(l); i++ {
		l[i].Kind = 44
	}
	n.L = l[:len(n.L)]
	return n
}

// TestOfSharesNothing asks R4: no two lists of an answer share memory.
func TestOfSharesNothing(t *testing.T) {
	for _, pattern := range []string{"(a|b){4,7}", "(?:(a)*b){3,}", "(?:(a){2}|b){0,3}c+", "(?:(?:ab){2}){3}"} {
		c, e := core.Of(root(t, pattern))
		at := map[*core.Core]struct{}{}
		walk(&c, func(x *core.Core) {
			for i := range x.L {
				if _, ok := at[&x.L[i]]; ok {
					t.Errorf("Of %q: two lists share memory", pattern)
				}
				at[&x.L[i]] = struct{}{}
			}
		})
		if e != api.OK || len(at) != core.Size(c)-1 {
			t.Errorf("Of %q: %d elements of %d parts", pattern, len(at), core.Size(c))
		}
	}
}

func ExampleOf() {
	a := tree.Node{Kind: 1, Set: byteset.Of('a')}
	c, e := core.Of(tree.Node{Kind: 4, Lo: 2, Hi: 2, L: []tree.Node{a}})
	fmt.Println(core.Text(c), e == api.OK)
	// Output: (<61>.(~<61>)) true
}
