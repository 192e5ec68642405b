package deriv_test

import (
	"strings"
	"testing"

	"catchpole/api"
	"catchpole/byteset"
	"catchpole/core"
	"catchpole/deriv"
)

// chain is a tidy core of that size, which is odd: the letters b and c by turns, one
// after the other.
func chain(size int) core.Core {
	c := set("b")
	for i := 1; i < size; i += 2 {
		c = concat(set("cb"[i/2%2:][:1]), c)
	}
	return c
}

// wantSize asks for a derivative of that size, or that it is too large.
func wantSize(t *testing.T, c core.Core, b byte, want int) {
	t.Helper()
	if want > api.MaxCore {
		wantError(t, c, b, api.ELARGE)
		return
	}
	got, err := deriv.By(c, b)
	if err != api.OK || core.Size(got) != want {
		t.Errorf("By of %s and %q: size %d, %v, want %d", show(c), b, core.Size(got), err, want)
	}
	wantTidy(t, got, got)
}

// TestMaxCoreAfterwards asks of derivatives of just MaxCore parts and around it.
func TestMaxCoreAfterwards(t *testing.T) {
	for size := 979; size <= 1019; size += 2 {
		rest := chain(size)
		if core.Size(rest) != size {
			t.Fatalf("a chain of %d: %d", size, core.Size(rest))
		}
		c := star(concat(set("a"), rest))
		wantSize(t, c, 'a', 4+2*size)
		wantSize(t, c, 'b', 1)
		wantSize(t, concat(c, set("z")), 'a', 6+2*size)
		wantSize(t, concat(c, star(set("z"))), 'a', 7+2*size)
		wantSize(t, concat(c, star(set("z"))), 'z', 2)
		wantSize(t, concat(c, group(1, star(renewal(set("z"))))), 'a', 7+2*size)
		wantSize(t, alternative(c, optional(set("a"))), 'a', 6+2*size)
		wantSize(t, alternative(c, star(set("a"))), 'a', 7+2*size)
	}
	rest := chain(997)
	c := star(concat(set("a"), rest))
	wantBy(t, concat(c, set("yz")), 'a', concat(concat(rest, c), set("yz")))
	wantSize(t, concat(c, concat(set("y"), set("z"))), 'a', api.MaxCore+2)
	wantSize(t, concat(c, star(set("z"))), 'a', api.MaxCore+1)
	wantSize(t, concat(c, alternative(set("y"), set("z"))), 'a', api.MaxCore+2)
	wantSize(t, concat(c, alternative(set("z"), set("z"))), 'a', api.MaxCore)
}

// TestMaxCoreBefore asks of cores of MaxCore parts, and of one more.
func TestMaxCoreBefore(t *testing.T) {
	deep := set("ab")
	for range api.MaxCore - 1 {
		deep = renewal(deep)
	}
	long := concat(set("a"), renewal(chain(api.MaxCore-3)))
	for _, x := range []struct{ c, after, tidy core.Core }{
		{deep, empty(), set("ab")},
		{long, chain(api.MaxCore - 3), concat(set("a"), chain(api.MaxCore-3))},
	} {
		if core.Size(x.c) != api.MaxCore {
			t.Fatalf("size %d", core.Size(x.c))
		}
		wantBy(t, x.c, 'a', x.after)
		wantTidy(t, x.c, x.tidy)
		wantError(t, group(1, x.c), 'a', api.EARG)
		wantWordError(t, group(1, x.c), "", api.EARG)
		wantUnchanged(t, group(1, x.c))
	}
}

// TestTooLargeBeforeTidy asks of derivatives that are far too large to be valid,
// but not so after Tidy.
func TestTooLargeBeforeTidy(t *testing.T) {
	a := set("a")
	// The last of many optional parts is the only one that reads an a; each other
	// one leaves all that follows it, after nothing.
	options := a
	for range 660 {
		options = concat(star(set("b")), options)
	}
	wantBy(t, options, 'a', empty())
	wantSize(t, options, 'b', api.MaxCore+1)

	// Each element leaves the same, and the size is that of one of them.
	rest := chain(501)
	same := concat(a, rest)
	for range 2 {
		same = alternative(same, concat(group(1, a), rest))
	}
	wantBy(t, same, 'a', rest)
	half := star(concat(a, chain(471)))
	wantBy(t, alternative(half, group(1, half)), 'a', concat(chain(471), half))
	// What is too large is not followed, or not told, by what nothing follows.
	large := star(concat(a, chain(1501)))
	wantError(t, large, 'a', api.ELARGE)
	for _, none := range []core.Core{nothing(), set(""), group(1, nothing()), renewal(concat(a, nothing()))} {
		wantBy(t, concat(large, none), 'a', nothing())
		wantBy(t, star(concat(large, none)), 'a', nothing())
		wantBy(t, alternative(concat(large, none), concat(a, a)), 'a', a)
	}
	// Only Tidy of the first element's star makes what is left small enough.
	stars := star(concat(a, deepStars(1900, nothing())))
	wantBy(t, stars, 'a', star(a))
	wantBy(t, concat(a, deepStars(1900, set("b"))), 'a', star(set("b")))
}

// deepStars is a core within that many stars.
func deepStars(count int, c core.Core) core.Core {
	for range count {
		c = star(c)
	}
	return c
}

// TestLevels asks of cores that are nested as deeply as they can be.
func TestLevels(t *testing.T) {
	a, most := set("a"), api.MaxCore-1
	wantTidy(t, deepStars(most, a), star(a))
	wantTidy(t, deepStars(most, nothing()), empty())
	wantTidy(t, deepStars(most, empty()), empty())
	wantBy(t, deepStars(most, a), 'b', nothing())
	// Each star leaves one more: a*, and a concatenation around.
	for stars := 660; stars < 675; stars++ {
		wantSize(t, deepStars(stars, a), 'a', 3*stars-1)
	}
	wantSize(t, deepStars(most, a), 'a', 3*most-1)

	groups := a
	for i := range most {
		groups = group(i%api.MaxGroups+1, groups)
	}
	wantTidy(t, groups, a)
	wantBy(t, groups, 'a', empty())

	left, right := a, a
	for range most / 2 {
		left, right = concat(left, a), concat(a, right)
	}
	wantTidy(t, left, left)
	wantTidy(t, right, right)
	wantSize(t, left, 'a', api.MaxCore-3)
	wantSize(t, right, 'a', api.MaxCore-3)
	wantBy(t, left, 'b', nothing())
	wantBy(t, right, 'b', nothing())

	left, right = a, a
	for range most / 2 {
		left, right = alternative(left, a), alternative(a, right)
	}
	wantTidy(t, left, a)
	wantTidy(t, right, a)
	wantBy(t, left, 'a', empty())
	wantBy(t, right, 'a', empty())
}

// TestManyBytes asks of words that are longer than MaxInput.
func TestManyBytes(t *testing.T) {
	for _, length := range []int{api.MaxInput - 1, api.MaxInput, api.MaxInput + 1, 4096, 100001} {
		s := []byte(strings.Repeat("ab", length/2+1)[:length])
		for _, x := range []struct {
			c         core.Core
			even, odd core.Core
		}{
			{nothing(), nothing(), nothing()},
			{set("a"), nothing(), nothing()},
			{star(set("ab")), star(set("ab")), star(set("ab"))},
			{coreOf(t, "(?:ab)*"), coreOf(t, "(?:ab)*"), coreOf(t, "b(?:ab)*")},
		} {
			want := x.even
			if length%2 == 1 {
				want = x.odd
			}
			if got, err := deriv.Word(x.c, s); err != api.OK || !core.Same(got, want) {
				t.Errorf("Word of %s and %d bytes: %s, %v, want %s", show(x.c), length, show(got), err, show(want))
			}
		}
	}
	var all []byte
	for b := range 256 {
		all = append(all, byte(b))
	}
	if got, err := deriv.Word(star(core.Core{Kind: 2, Set: byteset.All()}), all); err != api.OK || got.Kind != 5 {
		t.Errorf("Word of all bytes: %s, %v", show(got), err)
	}
}

// TestLargeCoresOfManyBytes asks of large cores, whose parts stand within one
// another in many levels, byte by byte. It would take very long if each level went
// through all that is within it.
func TestLargeCoresOfManyBytes(t *testing.T) {
	a, most := set("a"), api.MaxCore/4-1
	left, right := star(a), star(a)
	for range most {
		left, right = concat(left, optional(set("b"))), concat(set("a"), right)
	}
	for _, x := range []struct {
		c    core.Core
		want int
	}{{left, core.Size(left)}, {right, 2}} {
		got, err := deriv.Word(x.c, []byte(strings.Repeat("a", 1000)))
		if err != api.OK || core.Size(got) != x.want {
			t.Errorf("Word of %s: size %d, %v, want %d", show(x.c), core.Size(got), err, x.want)
		}
	}
}

// TestGrowth asks of derivatives that become larger byte by byte, till one is too
// large.
func TestGrowth(t *testing.T) {
	for _, x := range []struct {
		pattern string
		b       byte
	}{
		{"(?:a|aa)*", 'a'},
		{"(?:a*)*", 'a'},
		{"(?:(?:a*)(?:a*))*", 'a'},
		{"(?:(a|ab)(c|bcd)?(d*))*", 'a'},
		{"(?:a?){20}", 'a'},
		{"(?:.*b){3}", 'b'},
	} {
		c := coreOf(t, x.pattern)
		word := ""
		for step := range 1000 {
			word += string([]byte{x.b})
			want := modelBy(c, x.b)
			wantSize(t, c, x.b, core.Size(want))
			if core.Size(want) > api.MaxCore {
				wantWordError(t, coreOf(t, x.pattern), word, api.ELARGE)
				wantWordError(t, coreOf(t, x.pattern), word+"zz", api.ELARGE)
				break
			}
			wantBy(t, c, x.b, want)
			if got, err := deriv.Word(coreOf(t, x.pattern), []byte(word)); err != api.OK || !core.Same(got, want) {
				t.Errorf("Word of %s and %s: %s, %v", x.pattern, word, show(got), err)
			}
			if core.Same(c, want) || step > 30 {
				break
			}
			c = want
		}
	}
}
