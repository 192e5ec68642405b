package lang_test

import (
	"math"
	"slices"
	"strings"
	"testing"

	"catchpole/api"
	"catchpole/byteset"
	"catchpole/core"
	"catchpole/lang"
)

// wantRefused asks that a core that is not valid says nothing.
func wantRefused(t *testing.T, c core.Core) {
	t.Helper()
	if core.Good(c) {
		t.Errorf("%s is valid", show(c))
	}
	if lang.Null(c) {
		t.Errorf("Null of %s, which isn't valid: true", show(c))
	}
	if got := lang.First(c); got != (byteset.Set{}) {
		t.Errorf("First of %s, which isn't valid: %v", show(c), got.Runs())
	}
	for _, s := range []string{"", "a", "b", "ab", "aa", "aab"} {
		if lang.Says(c, []byte(s)) {
			t.Errorf("Says of %s, which isn't valid, and %q: true", show(c), s)
		}
		for from := -1; from <= len(s)+1; from++ {
			if got := lang.Ends(c, []byte(s), from); len(got) != 0 {
				t.Errorf("Ends of %s, which isn't valid, in %q from %d: %v", show(c), s, from, got)
			}
		}
	}
}

// wantRefusedAnywhere asks that c is refused wherever it may stand, also where
// all of the core would match the same whatever it is.
func wantRefusedAnywhere(t *testing.T, c core.Core) {
	t.Helper()
	for _, x := range []core.Core{
		c,
		concat(c, set("a")),
		concat(set("a"), c),
		concat(nothing(), c),
		concat(star(set("a")), star(c)),
		alternative(c, set("a")),
		alternative(set("a"), c),
		alternative(empty(), c),
		alternative(c, star(set("a"))),
		star(c),
		group(1, c),
		renewal(c),
		star(alternative(set("a"), renewal(group(1, concat(star(c), set("b")))))),
	} {
		wantRefused(t, x)
	}
}

func TestUnknownKinds(t *testing.T) {
	for _, kind := range []int{-1, -2, 8, 9, 10, 256, 257, 258, 261, 1<<32 + 1, 1<<32 + 5, math.MaxInt, math.MinInt} {
		for n := range 4 {
			wantRefusedAnywhere(t, core.Core{Kind: kind, L: slices.Repeat([]core.Core{empty()}, n)})
			wantRefusedAnywhere(t, core.Core{Kind: kind, L: slices.Repeat([]core.Core{set("a")}, n)})
		}
		wantRefusedAnywhere(t, core.Core{Kind: kind, Set: of("a")})
	}
}

// TestNumberOfElements asks of cores with too many elements or with too few.
func TestNumberOfElements(t *testing.T) {
	counts := []int{0, 0, 0, 2, 2, 1, 1, 1}
	for kind, count := range counts {
		for n := range 5 {
			for _, element := range []core.Core{empty(), set("a"), star(set("a"))} {
				c := core.Core{Kind: kind, L: slices.Repeat([]core.Core{element}, n)}
				if kind == 2 {
					c.Set = of("a")
				}
				if kind == 6 {
					c.N = 1
				}
				if n != count {
					wantRefusedAnywhere(t, c)
				} else if !core.Good(c) {
					t.Errorf("%s isn't valid", show(c))
				}
			}
		}
	}
}

// TestOtherFields asks of cores with a field that must be zero and is not, and
// of groups without a number that may be.
func TestOtherFields(t *testing.T) {
	for _, c := range append(kinds(), star(empty()), optional(set("a")), group(1, empty()), renewal(empty())) {
		for _, s := range []byteset.Set{of("a"), of("ab"), byteset.All(), {0, 0, 0, 1 << 63}} {
			wrong := c
			wrong.Set = s
			if c.Kind != 2 {
				wantRefusedAnywhere(t, wrong)
			}
		}
		for _, n := range []int{1, 2, api.MaxGroups, -1, 1 << 32, math.MinInt} {
			wrong := c
			wrong.N = n
			if c.Kind != 6 {
				wantRefusedAnywhere(t, wrong)
			}
		}
	}
	for _, n := range []int{0, -1, api.MaxGroups + 1, 1<<32 + 1, math.MaxInt} {
		wantRefusedAnywhere(t, group(n, set("a")))
		wantRefusedAnywhere(t, group(n, empty()))
	}
}

// nested is c within that many stars, groups and renewals.
func nested(times int, c core.Core) core.Core {
	for i := range times {
		c = []core.Core{star(c), group(1+i%api.MaxGroups, c), renewal(c)}[i%3]
	}
	return c
}

// vine is a core of that size, an odd one, that matches what x matches: by
// alternatives with it, to the right or to the left.
func vine(size int, right bool, x core.Core) core.Core {
	c := x
	for ; size > 1; size -= 2 {
		if right {
			c = alternative(x, c)
		} else {
			c = alternative(c, x)
		}
	}
	return c
}

// TestMaxCore asks that a core of a Size of MaxCore is heard, and one of a
// greater one is not.
func TestMaxCore(t *testing.T) {
	a := set("a")
	for size := api.MaxCore - 2; size <= api.MaxCore+3; size++ {
		odd, rest := size, []core.Core{}
		if size%2 == 0 {
			odd, rest = size-1, append(rest, a)
		}
		wide := vine(odd, true, a)
		deep := nested(size-1, a)
		other := vine(odd, false, empty())
		if len(rest) > 0 {
			wide, other = renewal(wide), star(other)
		}
		for _, c := range []core.Core{wide, deep, other} {
			if got := core.Size(c); got != size {
				t.Errorf("the Size of %s is %d, not %d", show(c), got, size)
			}
			if size > api.MaxCore {
				wantRefused(t, c)
			}
		}
		if size <= api.MaxCore {
			wantEnds(t, wide, "aab", 0, []int{1})
			wantEnds(t, deep, "aab", 0, []int{0, 1, 2})
			wantEnds(t, other, "aab", 0, []int{0})
			if lang.First(wide) != of("a") || lang.First(deep) != of("a") || lang.First(other) != of("") {
				t.Errorf("First of cores of a Size of %d: %v, %v, %v", size, lang.First(wide), lang.First(deep), lang.First(other))
			}
			if lang.Null(wide) || !lang.Null(deep) || !lang.Null(other) {
				t.Errorf("Null of cores of a Size of %d: %v, %v, %v", size, lang.Null(wide), lang.Null(deep), lang.Null(other))
			}
		}
	}
	for _, size := range []int{2*api.MaxCore + 1, 65535, 100001, 300001} {
		wantRefused(t, vine(size, true, a))
		wantRefused(t, vine(size, false, empty()))
		wantRefused(t, nested(min(size, 65535), a))
	}
	wantRefused(t, core.Core{Kind: 4, L: slices.Repeat([]core.Core{empty()}, 1000000)})
}

// TestMaxInput asks of strings of MaxInput bytes and of one more.
func TestMaxInput(t *testing.T) {
	a := set("a")
	for _, x := range []struct {
		c    core.Core
		want []int
	}{
		{star(a), upTo(0, api.MaxInput)},
		{empty(), []int{0}},
		{a, []int{1}},
		{concat(star(a), a), upTo(1, api.MaxInput)},
		{star(alternative(concat(a, a), concat(a, concat(a, a)))), append([]int{0}, upTo(2, api.MaxInput)...)},
	} {
		for length := api.MaxInput - 2; length <= api.MaxInput; length++ {
			cut := x.want[:len(x.want)-min(len(x.want)-1, api.MaxInput-length)]
			wantEnds(t, x.c, strings.Repeat("a", length), 0, cut)
		}
		for _, length := range []int{api.MaxInput + 1, api.MaxInput + 2, 2*api.MaxInput + 1, 65536, 1000000} {
			s := []byte(strings.Repeat("a", length))
			if lang.Says(x.c, s) {
				t.Errorf("Says of %s and %d bytes: true", show(x.c), length)
			}
			for _, from := range []int{-1, 0, 1, 2, api.MaxInput - 1, api.MaxInput, api.MaxInput + 1, length - 1, length, length + 1} {
				if got := lang.Ends(x.c, s, from); len(got) != 0 {
					t.Errorf("Ends of %s in %d bytes from %d: %v", show(x.c), length, from, got)
				}
			}
		}
	}
	full := strings.Repeat("a", api.MaxInput)
	for _, from := range []int{0, 1, 63, 64, 127, 128, 129, 254, 255, 256} {
		wantEnds(t, star(a), full, from, upTo(from, api.MaxInput))
		wantEnds(t, empty(), full, from, []int{from})
	}
	wantEnds(t, star(a), full, api.MaxInput+1, nil)
	wantEnds(t, a, full, api.MaxInput, nil)
	wantEnds(t, concat(star(set("ab")), set("b")), full[1:]+"b", 5, []int{api.MaxInput})
}

// TestDeepCores asks R1: what would be gone through far too often by one who
// tries all ways, one after the other, comes to its end.
func TestDeepCores(t *testing.T) {
	a, b := set("a"), set("b")
	full := strings.Repeat("a", api.MaxInput)
	all := upTo(0, api.MaxInput)
	wantEnds(t, nested(api.MaxCore-1, a), full, 0, all)
	wantEnds(t, nested(api.MaxCore-3, optional(a)), full, 0, all)
	wantEnds(t, nested(api.MaxCore-3, concat(a, b)), full, 0, []int{0})

	stars, within, fail, options := star(a), star(a), star(a), empty()
	for range 300 {
		stars = concat(star(a), stars)
		within = star(concat(within, star(a)))
		fail = star(concat(star(a), alternative(fail, b)))
		options = concat(optional(a), options)
	}
	wantEnds(t, stars, full, 0, all)
	wantEnds(t, concat(stars, b), full, 0, nil)
	wantEnds(t, within, full, 0, all)
	wantEnds(t, concat(within, b), full, 0, nil)
	wantEnds(t, fail, full, 0, all)
	wantEnds(t, concat(fail, b), full, 0, nil)
	wantEnds(t, options, full, 0, all)
	wantEnds(t, concat(options, b), full, 0, nil)

	// (a|1) 128 times, and then a 128 times.
	exact := a
	for range 127 {
		exact = concat(a, exact)
	}
	for range 128 {
		exact = concat(optional(a), exact)
	}
	wantEnds(t, exact, full, 0, upTo(128, 256))
	wantEnds(t, exact, full[:127], 0, nil)

	doubled := alternative(a, a)
	for range 7 {
		doubled = concat(doubled, doubled)
	}
	wantEnds(t, doubled, full, 0, []int{128})
	wantEnds(t, star(doubled), full, 0, []int{0, 128, 256})
	wantEnds(t, star(alternative(doubled, star(doubled))), full, 100, []int{100, 228})
}

// TestWideCores asks of cores of many sets, balanced ones and vines.
func TestWideCores(t *testing.T) {
	var each core.Core
	for b := range 256 {
		each = alternative(core.Core{Kind: 2, Set: byteset.Of(byte(b))}, each)
	}
	if got := lang.First(each); got != byteset.All() {
		t.Errorf("First of each byte: %v", got.Runs())
	}
	var s []byte
	for b := range 256 {
		s = append(s, byte(b))
	}
	wantEnds(t, each, string(s), 77, []int{78})
	wantEnds(t, star(each), string(s), 0, upTo(0, 256))
	var row core.Core = empty()
	for b := 255; b >= 0; b-- {
		row = concat(core.Core{Kind: 2, Set: byteset.Of(byte(b))}, row)
	}
	wantEnds(t, row, string(s), 0, []int{256})
	wantEnds(t, row, string(s), 1, nil)
	if got := lang.First(row); got != byteset.Of(0) {
		t.Errorf("First of all bytes in a row: %v", got.Runs())
	}
}

// TestArbitraryCores asks R1: each call ends, whatever it is given.
func TestArbitraryCores(t *testing.T) {
	shared := set("a")
	for range 200 {
		shared = concat(shared, shared)
	}
	for kind := -2; kind <= 10; kind++ {
		for _, x := range []int{0, 1, -1, 300, math.MaxInt, math.MinInt} {
			for _, l := range [][]core.Core{nil, {{}}, {set("a"), {Kind: kind}}, {vine(100001, true, set("a"))}, {shared, shared}} {
				c := core.Core{Kind: kind, Set: byteset.Set{uint64(x)}, N: x, L: l}
				if core.Good(c) {
					lang.Null(c)
					lang.First(c)
					lang.Ends(c, []byte("aab"), x)
					continue
				}
				wantRefused(t, c)
			}
		}
	}
}

// clone is c with memory of its own.
func clone(c core.Core) core.Core {
	l := make([]core.Core, len(c.L), len(c.L)+2)
	for i, x := range c.L {
		l[i] = clone(x)
	}
	spare := l[len(l):cap(l)]
	spare[0], spare[1] = set("y"), set("z")
	c.L = l
	return c
}

// untouched tells whether a clone of c is what it was, its spare capacity too.
func untouched(c, was core.Core) bool {
	spare := was.L[len(was.L):cap(was.L)]
	return c.Kind == was.Kind && c.Set == was.Set && c.N == was.N && slices.EqualFunc(c.L, was.L, untouched) &&
		core.Same(spare[0], set("y")) && core.Same(spare[1], set("z"))
}

// TestMemory asks R4: nothing that is passed is changed, and no answer shares
// memory with an argument or with another answer.
func TestMemory(t *testing.T) {
	for _, original := range append(kinds(), optional(star(set("a"))), concat(star(set("ab")), group(2, optional(renewal(set("b")))))) {
		c := clone(original)
		spare := []byte("aabab----")
		s := spare[:5]
		lang.Null(c)
		lang.First(c)
		lang.Says(c, s)
		ends := lang.Ends(c, s, 1)
		if !untouched(original, c) || string(spare) != "aabab----" {
			t.Errorf("%s or the string was changed: %s and %q", show(original), show(c), spare)
		}
		want := slices.Clone(ends)
		other := lang.Ends(c, s, 1)
		for i := range other[:cap(other)] {
			other[:cap(other)][i] = -7
		}
		if !slices.Equal(ends, want) {
			t.Errorf("%s: an answer shares memory with a later one", show(c))
		}
		if got := lang.Ends(c, s, 1); !slices.Equal(got, want) {
			t.Errorf("%s: an answer shares memory with an earlier one", show(c))
		}
		copy(s, "zzzzz")
		if !slices.Equal(ends, want) {
			t.Errorf("%s: an answer shares memory with the string", show(c))
		}
		copy(s, "aabab")
		if got := lang.Ends(clone(original), s, 1); !slices.Equal(got, want) {
			t.Errorf("%s: another answer than before: %v", show(c), got)
		}
	}
}
