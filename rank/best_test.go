package rank_test

import (
	"slices"
	"testing"

	"catchpole/api"
	"catchpole/core"
	"catchpole/parse"
	"catchpole/rank"
	"catchpole/value"
)

// wantBest asks for the index of the best value of l.
func wantBest(t *testing.T, l []value.Value, want int) {
	t.Helper()
	if got, ok := rank.Best(l); !ok || got != want {
		t.Errorf("Best of %d values: %d, %v, want %d", len(l), got, ok, want)
	}
}

func TestBestOfNone(t *testing.T) {
	for _, l := range [][]value.Value{nil, {}, make([]value.Value, 0, 8), []value.Value{letter('a')}[:0]} {
		if got, ok := rank.Best(l); got != 0 || ok {
			t.Errorf("Best of no value: %d, %v", got, ok)
		}
	}
}

func TestBestOfOne(t *testing.T) {
	for _, v := range []value.Value{{}, {Kind: -1}, empty(), letter(0), star(), concat(), group(letters("ab"))} {
		wantBest(t, []value.Value{v}, 0)
	}
}

// orders yields each order of the numbers below n.
func orders(n int, yield func([]int)) {
	order := make([]int, n)
	for i := range order {
		order[i] = i
	}
	var swap func(int)
	swap = func(at int) {
		if at == n {
			yield(order)
			return
		}
		for i := at; i < n; i++ {
			order[at], order[i] = order[i], order[at]
			swap(at + 1)
			order[at], order[i] = order[i], order[at]
		}
	}
	swap(0)
}

// TestBestInEachOrder asks of the same values in each order, some of which are
// equal: the first one of the best ones is told.
func TestBestInEachOrder(t *testing.T) {
	a, b := letter('a'), letter('b')
	ascending := []value.Value{letters("abc"), concat(right(b), a), left(a), right(a), star(a), empty(), {Kind: 9}}
	orders(len(ascending), func(order []int) {
		var l []value.Value
		for _, i := range order {
			l = append(l, ascending[i])
		}
		wantBest(t, l, slices.Index(order, 0))
	})
	// Three of the best ones, of which two have what does not count.
	equal := []value.Value{left(a), left(a, b), {Kind: 4, B: 'x', L: []value.Value{a}}, left(b), right(a), star(a, empty()), empty()}
	orders(len(equal), func(order []int) {
		var l []value.Value
		for _, i := range order {
			l = append(l, equal[i])
		}
		wantBest(t, l, slices.IndexFunc(order, func(i int) bool { return i < 3 }))
	})
}

// TestBestAtEachPlace asks of the best value at each place of lists of each
// length, alone and with another one behind it.
func TestBestAtEachPlace(t *testing.T) {
	worse := []value.Value{letter('b'), left(letter('a')), empty(), {}, star(letter('a')), group(letter('a'))}
	for n := 1; n < 40; n++ {
		for at := range n {
			var l []value.Value
			for i := range n {
				l = append(l, worse[(i*i+at)%len(worse)])
			}
			l[at] = letter('a')
			wantBest(t, l, at)
			for second := range n {
				again := slices.Clone(l)
				again[second] = letter('a')
				wantBest(t, again, min(at, second))
			}
		}
		wantBest(t, slices.Repeat([]value.Value{letters("ab")}, n), 0)
	}
}

// TestBestWithinAList asks that nothing but the list is looked at, nor what is
// in the capacity behind it.
func TestBestWithinAList(t *testing.T) {
	l := []value.Value{letters("abcd"), letter('b'), letter('c'), letter('a'), letters("ab")}
	wantBest(t, l, 0)
	wantBest(t, l[1:], 3)
	wantBest(t, l[1:3], 0)
	wantBest(t, l[2:4], 1)
	wantBest(t, l[1:4], 2)
}

// ways are all Full values of c whose bytes are s, in no order that matters.
func ways(c core.Core, s string) []value.Value {
	var all []value.Value
	switch c.Kind {
	case 1:
		if s == "" {
			all = append(all, empty())
		}
	case 2:
		if len(s) == 1 && c.Set.Has(s[0]) {
			all = append(all, letter(s[0]))
		}
	case 3:
		for i := range len(s) + 1 {
			all = append(all, pairs(ways(c.L[0], s[:i]), ways(c.L[1], s[i:]))...)
		}
	case 4:
		for _, v := range ways(c.L[1], s) {
			all = append(all, right(v))
		}
		for _, v := range ways(c.L[0], s) {
			all = append(all, left(v))
		}
	case 5:
		if s == "" {
			all = append(all, star())
		}
		for i := range len(s) {
			for _, v := range pairs(ways(c.L[0], s[:i+1]), ways(c, s[i+1:])) {
				all = append(all, star(append([]value.Value{v.L[0]}, v.L[1].L...)...))
			}
		}
	case 6:
		for _, v := range ways(c.L[0], s) {
			all = append(all, group(v))
		}
	case 7:
		all = ways(c.L[0], s)
	}
	return all
}

// pairs are the concatenations of each value of l and each one of m.
func pairs(l, m []value.Value) []value.Value {
	var all []value.Value
	for _, v := range l {
		for _, w := range m {
			all = append(all, concat(v, w))
		}
	}
	return all
}

// coreOf is the core of a pattern.
func coreOf(t *testing.T, pattern string) core.Core {
	t.Helper()
	p, _, err := parse.Of(pattern)
	if err != api.OK {
		t.Fatalf("%s: %v", pattern, err)
	}
	c, err := core.Of(p.Root)
	if err != api.OK {
		t.Fatalf("%s: %v", pattern, err)
	}
	return c
}

// TestPatterns asks which of all ways to match a string is the best: that of
// POSIX, in whatever order they stand.
func TestPatterns(t *testing.T) {
	for _, x := range []struct{ pattern, s, want string }{
		{"a", "a", "61"},
		{"a|a", "a", "L61"},
		{"a|ab", "ab", "R(61,62)"},
		{"(?:a|ab)(?:c|bcd)(?:d*)", "abcd", "(R(61,62),(L63,[64]))"},
		{"(a|ab)(c|bcd)(d*)", "abcd", "(<R(61,62)>,(<L63>,<[64]>))"},
		{"(?:ab|a)(?:bcd|c)(?:d*)", "abcd", "(L(61,62),(R63,[64]))"},
		{"(?:a|ab)(?:b?)", "ab", "(R(61,62),RE)"},
		{"(?:a?)(?:ab)?", "ab", "(RE,L(61,62))"},
		{"(?:a?)(?:ab|b)", "ab", "(L61,R62)"},
		{"(?:a*)(?:a*)", "aa", "([61,61],[])"},
		{"(?:a?)(?:a?)", "a", "(L61,RE)"},
		{"(?:a|aa)*", "aaa", "[R(61,61),L61]"},
		{"(?:aa|a)*", "aaa", "[L(61,61),R61]"},
		{"(?:a|b|ab)*", "ab", "[RR(61,62)]"},
		{"(?:a|ab|b)*", "abab", "[RL(61,62),RL(61,62)]"},
		{"(?:a*)*", "aa", "[[61,61]]"},
		{"(?:a*)*", "", "[]"},
		{"(?:a*|b)*", "aaba", "[L[61,61],R62,L[61]]"},
		{"(?:(?:a*)(?:b|abc))(?:c*)", "abc", "(([],R(61,(62,63))),[])"},
		{"(?:(?:a*)(?:abc|b))(?:c*)", "abc", "(([],L(61,(62,63))),[])"},
		{"(?:a|ab|c|bcd)*", "abcd", "[L61,RRR(62,(63,64))]"},
		{"(?:a|ab|c|bcd|d)*", "abcd", "[RL(61,62),RRL63,RRRR64]"},
		{"a*|(?:a|b)*", "aa", "L[61,61]"},
		{"a*|(?:a|b)*", "ab", "R[L61,R62]"},
		{"(?:a{0}|a)(?:a{0}|a)", "a", "(R61,LE)"},
		{"(?:a|b)(?:a|b)", "ab", "(L61,R62)"},
		{"(?:xa|x)(?:ay|y)", "xay", "(L(78,61),R79)"},
	} {
		l := ways(coreOf(t, x.pattern), x.s)
		for range l {
			at, ok := rank.Best(l)
			if !ok || value.Text(l[at]) != x.want {
				t.Errorf("%s and %s: %d, %v of %d values, want %s", x.pattern, x.s, at, ok, len(l), x.want)
				break
			}
			l = append(l[1:], l[0])
		}
		if len(l) == 0 {
			t.Errorf("%s does not match %s", x.pattern, x.s)
		}
	}
}
