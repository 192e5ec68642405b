package eager_test

import (
	"math/rand"
	"slices"
	"testing"

	"catchpole/api"
	"catchpole/bits"
	"catchpole/core"
	"catchpole/eager"
	"catchpole/parse"
	"catchpole/value"
)

// way is a value with the number of the bytes that it takes.
type way struct {
	v     value.Value
	bytes int
}

// ways are all Full values of c whose bytes are those with which s begins, in the
// order in which one finds them who tries the first choice first, and goes back
// to the last choice where there is one left.
func ways(c core.Core, s string) []way {
	var all []way
	switch c.Kind {
	case 1:
		all = append(all, way{empty(), 0})
	case 2:
		if s != "" && c.Set.Has(s[0]) {
			all = append(all, way{letter(s[0]), 1})
		}
	case 3:
		for _, x := range ways(c.L[0], s) {
			for _, y := range ways(c.L[1], s[x.bytes:]) {
				all = append(all, way{concat(x.v, y.v), x.bytes + y.bytes})
			}
		}
	case 4:
		for _, x := range ways(c.L[0], s) {
			all = append(all, way{left(x.v), x.bytes})
		}
		for _, x := range ways(c.L[1], s) {
			all = append(all, way{right(x.v), x.bytes})
		}
	case 5:
		for _, x := range ways(c.L[0], s) {
			if x.bytes > 0 {
				for _, y := range ways(c, s[x.bytes:]) {
					all = append(all, way{star(append([]value.Value{x.v}, y.v.L...)...), x.bytes + y.bytes})
				}
			}
		}
		all = append(all, way{star(), 0})
	case 6:
		for _, x := range ways(c.L[0], s) {
			all = append(all, way{group(x.v), x.bytes})
		}
	case 7:
		all = ways(c.L[0], s)
	}
	return all
}

// coreOf is the core of a pattern.
func coreOf(t *testing.T, pattern string) core.Core {
	t.Helper()
	p, _, err := parse.Of(pattern)
	if err != api.OK {
		t.Fatalf("%s: %v", pattern, err)
	}
	c, err := core.Of(p.Root)
	if err != api.OK {
		t.Fatalf("%s: %v", pattern, err)
	}
	return c
}

// TestPatterns asks which of all ways to match what a string begins with is the
// best: the first one that greedy matching finds, in whatever order they stand.
func TestPatterns(t *testing.T) {
	for _, x := range []struct{ pattern, s, want string }{
		{"a", "a", "61"},
		{"a|a", "a", "L61"},
		{"a|ab", "ab", "L61"},
		{"ab|a", "ab", "L(61,62)"},
		{"(a|ab)(c|bcd)(d*)", "abcd", "(<L61>,(<R(62,(63,64))>,<[]>))"},
		{"(?:ab|a)(?:bcd|c)(?:d*)", "abcd", "(L(61,62),(R63,[64]))"},
		{"(?:a|ab)(?:c|bcd)?", "abc", "(L61,RE)"},
		{"(?:a?)(?:ab)?", "ab", "(L61,RE)"},
		{"(?:a?)(?:ab|b)", "ab", "(L61,R62)"},
		{"(?:a{0}|a)(?:a{0}|a)", "a", "(LE,LE)"},
		{"(?:a*)(?:a*)", "aa", "([61,61],[])"},
		{"(?:a*)ab", "aaab", "([61,61],(61,62))"},
		{"(?:a|aa)*", "aaa", "[L61,L61,L61]"},
		{"(?:aa|a)*", "aaa", "[L(61,61),R61]"},
		{"(?:a|b|ab)*", "abab", "[L61,RL62,L61,RL62]"},
		{"(?:a|ab)*b", "abab", "([L61],62)"},
		{"(?:a*)*", "aa", "[[61,61]]"},
		{"(?:a*)*", "", "[]"},
		{"(?:a*|b)*", "aaba", "[L[61,61],R62,L[61]]"},
		{"a*|(?:a|b)*", "ab", "L[61]"},
		{"(?:a|b)*|a*", "ab", "L[L61,R62]"},
		{"(?:xa|x)(?:ay|y)", "xay", "(L(78,61),R79)"},
		{"(?:(?:a|ab)(?:c|bcd))(?:d*)", "abcd", "((L61,R(62,(63,64))),[])"},
	} {
		all := ways(coreOf(t, x.pattern), x.s)
		var l []value.Value
		for _, w := range all {
			l = append(l, w.v)
		}
		for range l {
			at, ok := eager.Best(l)
			if !ok || value.Text(l[at]) != x.want {
				t.Errorf("%s and %s: %d, %v of %d values, want %s", x.pattern, x.s, at, ok, len(l), x.want)
				break
			}
			l = append(l[1:], l[0])
		}
		if len(l) == 0 {
			t.Errorf("%s does not match %s", x.pattern, x.s)
		}
	}
}

// TestOrderOfWays asks that all ways to match what a string begins with precede
// one another in the order in which greedy matching finds them, and that two of
// them part at a choice, as the choices of none are a prefix of others.
func TestOrderOfWays(t *testing.T) {
	r := rand.New(rand.NewSource(14))
	for _, x := range []struct{ pattern, s string }{
		{"(?:a|ab)(?:c|bcd)(?:d*)", "abcdd"},
		{"(a|ab|b)*", "abab"},
		{"((a*)*|b)*", "aaba"},
		{"(a|aa|aaa)*(a?)(a*)", "aaaaa"},
		{"(a?){3}", "aaaa"},
		{"(a?|b){0,3}", "aba"},
		{"((a|b)*(ab|a)?)*", "aba"},
		{"(a|b){2,}", "ababab"},
		{"(a{0}|a|aa)+", "aaa"},
	} {
		c := coreOf(t, x.pattern)
		var l []value.Value
		for _, w := range ways(c, x.s) {
			if !value.Full(c, w.v) {
				t.Fatalf("%s is no full value of %s", show(w.v), x.pattern)
			}
			l = append(l, w.v)
		}
		if len(l) < 5 {
			t.Errorf("%s matches %s in %d ways", x.pattern, x.s, len(l))
		}
		wantAscending(t, l...)
		for i, v := range l[1:] {
			wantParted(t, l[i], v)
			wantParted(t, l[r.Intn(i+1)], v)
		}
		shuffled := slices.Clone(l)
		r.Shuffle(len(l), func(i, j int) { shuffled[i], shuffled[j] = shuffled[j], shuffled[i] })
		best, _ := eager.Best(shuffled)
		if !value.Same(shuffled[best], l[0]) {
			t.Errorf("%s and %s: %s, want %s", x.pattern, x.s, show(shuffled[best]), show(l[0]))
		}
		slices.SortFunc(shuffled, eager.Cmp)
		if !slices.EqualFunc(shuffled, l, value.Same) {
			t.Errorf("%s and %s: the ways are not sorted as they are found", x.pattern, x.s)
		}
	}
}

// wantParted asks that v precedes w, by a choice `0` of v for a `1` of w where
// Apart tells, and that all choices ahead of that are the same.
func wantParted(t *testing.T, v, w value.Value) {
	t.Helper()
	a, b, at := bits.Put(v), bits.Put(w), eager.Apart(v, w)
	if at < 0 || at >= min(len(a), len(b)) || a[:at] != b[:at] || a[at] != '0' || b[at] != '1' {
		t.Errorf("Apart of %s and %s: %d", show(v), show(w), at)
	}
}
