package every_test

import (
	"slices"
	"strings"
	"sync"
	"testing"

	"catchpole/api"
	"catchpole/core"
	"catchpole/every"
	"catchpole/value"
)

// roomyCore is c with spare capacity in each list, in which a core stands.
func roomyCore(c core.Core) core.Core {
	l := make([]core.Core, len(c.L), len(c.L)+1)
	for i, x := range c.L {
		l[i] = roomyCore(x)
	}
	l[:cap(l)][len(l)] = coreSet("spare")
	c.L = l
	return c
}

// intactCore tells whether c is what roomyCore made.
func intactCore(c core.Core) bool {
	return core.Same(c.L[:cap(c.L)][len(c.L)], coreSet("spare")) && !slices.ContainsFunc(c.L, func(x core.Core) bool { return !intactCore(x) })
}

// places adds the places of all elements of l and of the lists within it, and in
// their spare capacity, to seen. It returns false if one of them is there already.
func places(l []value.Value, seen map[*value.Value]bool) bool {
	for i := range l[:cap(l)] {
		at := &l[:cap(l)][i]
		if seen[at] {
			return false
		}
		seen[at] = true
	}
	return !slices.ContainsFunc(l, func(v value.Value) bool { return !places(v.L, seen) })
}

// TestMemoryOfAll asks R4 and R5: what is passed is not changed, nor its spare
// capacity, and not kept; and the lists of values are new ones each time.
func TestMemoryOfAll(t *testing.T) {
	for _, x := range []struct{ pattern, s string }{
		{"a{0}", ""},
		{"(?:a|a)(?:a|a)", "aa"},
		{"(a|ab)(c|bcd)(d*)", "abcd"},
		{"((a*)*|b)*", "aaba"},
		{"(?:a*)(?:(?:b|a)*)", "aaa"},
		{"(a?){2,5}", "aaa"},
	} {
		plain := coreOf(t, x.pattern)
		c := roomyCore(plain)
		room := []byte(x.s + "spare")
		s := room[:len(x.s)]
		l, err := every.All(c, s, api.MaxEvery)
		other, _ := every.All(c, s, api.MaxEvery)
		count := every.Count(c, s, api.MaxEvery)
		wantTooMany(t, c, x.s, len(l)-1)
		if err != api.OK || len(l) == 0 || count != len(l) {
			t.Errorf("All of %s and %s: %d of %d, %v", x.pattern, x.s, len(l), count, err)
		}
		if string(room) != x.s+"spare" || !core.Same(c, plain) || !intactCore(c) {
			t.Errorf("%s or %s was changed", x.pattern, x.s)
		}
		seen := map[*value.Value]bool{}
		if !places(l, seen) || !places(other, seen) {
			t.Errorf("%s and %s: lists share memory", x.pattern, x.s)
		}
		copy(room, strings.Repeat("!", len(room)))
		wantAll(t, plain, x.s, l)
		wantAll(t, plain, x.s, other)
	}
}

// TestMemoryOfTexts asks the same of strings.
func TestMemoryOfTexts(t *testing.T) {
	for _, pattern := range []string{"a{0}", "(?:a|b)*", "(a|ab)(c|bcd)(d*)", "(?:.)*|b", "a*"} {
		plain := coreOf(t, pattern)
		c := roomyCore(plain)
		room := []byte("dcbaspare")
		bytes := room[:4]
		l, err := every.Texts(c, bytes, 4, api.MaxEvery)
		other, _ := every.Texts(c, bytes, 4, api.MaxEvery)
		if err != api.OK || len(l) == 0 || len(other) != len(l) {
			t.Errorf("Texts of %s: %d, %d, %v", pattern, len(l), len(other), err)
		}
		wantTooManyTexts(t, c, "dcba", 4, len(l)-1)
		if string(room) != "dcbaspare" || !core.Same(c, plain) || !intactCore(c) {
			t.Errorf("%s or the bytes were changed", pattern)
		}
		want := stringsIn(l)
		copy(room, "---------")
		// What is written to one string, and to its spare capacity, is in no other.
		for _, s := range other {
			for i := range s[:cap(s)] {
				s[:cap(s)][i] = '!'
			}
		}
		for i, s := range l {
			if string(s) != want[i] {
				t.Errorf("%s: %q became %q", pattern, want[i], s)
			}
			for j := range s[:cap(s)] {
				s[:cap(s)][j] = '?'
			}
		}
		wantTexts(t, plain, "dcba", 4, want...)
	}
}

// TestNilAndEmpty asks that a nil list and an empty one are the same.
func TestNilAndEmpty(t *testing.T) {
	c := core.Core{Kind: 5, L: []core.Core{{Kind: 1, L: []core.Core{}}}}
	for _, s := range [][]byte{nil, {}, []byte("a")[:0]} {
		if l, err := every.All(c, s, 1); err != api.OK || len(l) != 1 || !value.Same(l[0], star()) || every.Count(c, s, 1) != 1 {
			t.Errorf("All of no byte: %s, %v", textsOf(l), err)
		}
		if l, err := every.Texts(c, s, 8, 1); err != api.OK || !slices.Equal(stringsIn(l), []string{""}) {
			t.Errorf("Texts of no byte: %q, %v", l, err)
		}
	}
}

// TestAtTheSameTime asks R5 of calls with the same arguments in several
// goroutines.
func TestAtTheSameTime(t *testing.T) {
	c := coreOf(t, "((a*)*|b|ab)*")
	ways, err := every.All(c, []byte("aaaba"), api.MaxEvery)
	texts, other := every.Texts(c, []byte("bac"), 4, api.MaxEvery)
	if err != api.OK || other != api.OK || len(ways) < 10 || len(texts) != 31 {
		t.Errorf("%d values, %v, and %d strings, %v", len(ways), err, len(texts), other)
	}
	var workers sync.WaitGroup
	for range 8 {
		workers.Go(func() {
			for range 20 {
				wantAll(t, c, "aaaba", ways)
				wantTexts(t, c, "bac", 4, stringsIn(texts)...)
			}
		})
	}
	workers.Wait()
}
