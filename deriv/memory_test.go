package deriv_test

import (
	"slices"
	"sync"
	"testing"

	"catchpole/api"
	"catchpole/core"
	"catchpole/deriv"
)

// roomyCore is c with spare capacity in each list, in which a core stands.
func roomyCore(c core.Core) core.Core {
	l := make([]core.Core, len(c.L), len(c.L)+1)
	for i, x := range c.L {
		l[i] = roomyCore(x)
	}
	l[:cap(l)][len(l)] = set("spare")
	c.L = l
	return c
}

// intactCore tells whether c is what roomyCore made.
func intactCore(c core.Core) bool {
	return core.Same(c.L[:cap(c.L)][len(c.L)], set("spare")) && !slices.ContainsFunc(c.L, func(x core.Core) bool { return !intactCore(x) })
}

// places adds the places of all elements of l and of the lists within it, and in
// their spare capacity, to seen. It returns false if one of them is there already.
func places(l []core.Core, seen map[*core.Core]bool) bool {
	for i := range l[:cap(l)] {
		at := &l[:cap(l)][i]
		if seen[at] {
			return false
		}
		seen[at] = true
	}
	return !slices.ContainsFunc(l, func(c core.Core) bool { return !places(c.L, seen) })
}

// patterns are such whose derivatives by a and by b have the same parts several
// times.
var patterns = []string{
	"a{0}", "a", "(abc)", "(?:ab)*", "(?:a(b|c)*d)*", "(?:(?:a*)(?:b*))*", "(?:(?:ab)*)*", "(a|ab)(c|bcd)(d*)",
	"((a*)*|b)*", "(?:(?:a?b){2,5}c*)*", "(?:a?){3}(?:bc)+", "(?:b|(a|bc)*d)+",
}

// TestMemory asks R4 and R5: what is passed is not changed, nor its spare capacity,
// and no two lists of what is returned are the same memory.
func TestMemory(t *testing.T) {
	for _, pattern := range patterns {
		plain := coreOf(t, pattern)
		c := roomyCore(plain)
		for _, s := range []string{"", "a", "b", "ab", "aa", "ba", "abab"} {
			room := []byte(s + "spare")
			after, err := deriv.Word(c, room[:len(s)])
			other, _ := deriv.Word(c, room[:len(s)])
			if string(room) != s+"spare" || !core.Same(c, plain) || !intactCore(c) {
				t.Errorf("%s or %s was changed", pattern, s)
			}
			if seen := (map[*core.Core]bool{}); err != api.OK || !places(after.L, seen) || !places(other.L, seen) {
				t.Errorf("Word of %s and %s: %v, or lists share memory", pattern, s, err)
			}
			if want, _ := modelWord(plain, s); !core.Same(after, want) || !core.Same(other, want) {
				t.Errorf("Word of %s and %s: %s and %s, want %s", pattern, s, show(after), show(other), show(want))
			}
		}
		for b := range 256 {
			after, err := deriv.By(c, byte(b))
			if err != api.OK || !places(after.L, map[*core.Core]bool{}) {
				t.Errorf("By of %s and %q: %v, or lists share memory", pattern, byte(b), err)
			}
		}
		tidy := deriv.Tidy(c)
		if !places(tidy.L, map[*core.Core]bool{}) || !core.Same(tidy, modelTidy(plain)) {
			t.Errorf("Tidy of %s: %s, or lists share memory", pattern, show(tidy))
		}
		if !core.Same(c, plain) || !intactCore(c) {
			t.Errorf("%s was changed", pattern)
		}
	}
}

// TestSharedParts asks of cores whose parts share their contents.
func TestSharedParts(t *testing.T) {
	part := concat(set("a"), star(set("b")))
	for _, c := range []core.Core{
		concat(part, part),
		alternative(part, part),
		alternative(part, group(1, part)),
		concat(star(part), part),
		star(concat(star(part), alternative(part, concat(part, part)))),
	} {
		before := core.Text(c)
		for _, b := range []byte("ab") {
			wantBy(t, c, b, modelBy(c, b))
			if after, err := deriv.By(c, b); err != api.OK || !places(after.L, map[*core.Core]bool{}) {
				t.Errorf("By of %s: %v, or lists share memory", before, err)
			}
		}
		if !places(deriv.Tidy(c).L, map[*core.Core]bool{}) {
			t.Errorf("Tidy of %s: lists share memory", before)
		}
		if core.Text(c) != before {
			t.Errorf("%s became %s", before, core.Text(c))
		}
	}
}

// TestWrongCoreIsNotChanged asks R4 of a core that is not valid.
func TestWrongCoreIsNotChanged(t *testing.T) {
	for _, wrong := range []core.Core{concat(set("a")), star(concat(star(star(set("a"))), core.Core{Kind: 8})), group(0, star(empty()))} {
		c := roomyCore(wrong)
		wantUnchanged(t, c)
		wantError(t, c, 'a', api.EARG)
		wantWordError(t, c, "ab", api.EARG)
		if !core.Same(c, wrong) || !intactCore(c) {
			t.Errorf("%s was changed", show(wrong))
		}
	}
}

// TestAtTheSameTime asks R5 of calls with the same arguments in several goroutines.
func TestAtTheSameTime(t *testing.T) {
	var workers sync.WaitGroup
	for _, pattern := range patterns {
		c := coreOf(t, pattern)
		after, tidy := modelBy(c, 'a'), modelTidy(c)
		for range 4 {
			workers.Go(func() {
				for range 20 {
					wantBy(t, c, 'a', after)
					wantTidy(t, c, tidy)
				}
			})
		}
	}
	workers.Wait()
}
