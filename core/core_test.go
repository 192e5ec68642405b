package core_test

import (
	"fmt"
	"math"
	"slices"
	"strings"
	"testing"

	"catchpole/api"
	"catchpole/byteset"
	"catchpole/core"
	"catchpole/tree"
)

// The functions and the type with the signatures that the chapter lists: others
// would not build.
var (
	_ func(core.Core) bool                   = core.Good
	_ func(tree.Node) (core.Core, api.Errno) = core.Of
	_ func(core.Core) int                    = core.Size
	_ func(core.Core) []byteset.Set          = core.Sets
	_ func(core.Core) []int                  = core.Groups
	_ func(core.Core, core.Core) bool        = core.Same
	_ func(core.Core) string                 = core.Text
	_                                        = struct {
		Kind int
		Set  byteset.Set
		N    int
		L    []core.Core
	}(core.Core{})
)

func of(text string) byteset.Set { return byteset.Of([]byte(text)...) }

func nothing() core.Core { return core.Core{} }

func empty() core.Core { return core.Core{Kind: 1} }

func set(text string) core.Core { return core.Core{Kind: 2, Set: of(text)} }

func concat(l ...core.Core) core.Core { return core.Core{Kind: 3, L: l} }

func alternative(l ...core.Core) core.Core { return core.Core{Kind: 4, L: l} }

func star(l ...core.Core) core.Core { return core.Core{Kind: 5, L: l} }

func group(number int, l ...core.Core) core.Core { return core.Core{Kind: 6, N: number, L: l} }

func renewal(l ...core.Core) core.Core { return core.Core{Kind: 7, L: l} }

// kinds has one valid core of each kind, with as few parts as may be.
func kinds() []core.Core {
	return []core.Core{
		nothing(),
		empty(),
		set("a"),
		concat(set("a"), set("b")),
		alternative(set("a"), set("b")),
		star(set("a")),
		group(1, set("a")),
		renewal(set("a")),
	}
}

// show is a text of a core, with all that is in it.
func show(c core.Core) string {
	var b strings.Builder
	write(&b, c)
	return b.String()[:min(b.Len(), 300)]
}

// write writes a text of c, or the beginning of a long one.
func write(b *strings.Builder, c core.Core) {
	if b.Len() > 300 {
		return
	}
	fmt.Fprintf(b, "%d:%v:%d[", c.Kind, c.Set.Runs(), c.N)
	for _, x := range c.L {
		write(b, x)
	}
	b.WriteByte(']')
}

// equal reports whether two cores are equal, without asking package core.
func equal(a, b core.Core) bool {
	return a.Kind == b.Kind && a.Set == b.Set && a.N == b.N && slices.EqualFunc(a.L, b.L, equal)
}

// walk does something with each part of c, an outer one before those within it.
func walk(c *core.Core, do func(*core.Core)) {
	do(c)
	for i := range c.L {
		walk(&c.L[i], do)
	}
}

// clone is c with memory of its own.
func clone(c core.Core) core.Core {
	l := make([]core.Core, len(c.L))
	for i, x := range c.L {
		l[i] = clone(x)
	}
	c.L = l
	return c
}

// nested is c within that many stars and renewals.
func nested(times int, c core.Core) core.Core {
	for i := range times {
		c = core.Core{Kind: 5 + i%2*2, L: []core.Core{c}}
	}
	return c
}

// vine is a valid core of that size but for the limit, which goes down by one of
// two elements at each level: by the second one if it is on the right.
func vine(size int, right bool) core.Core {
	c := set("a")
	if size%2 == 0 {
		c, size = star(c), size-1
	}
	for ; size > 1; size -= 2 {
		if right {
			c = concat(set("b"), c)
		} else {
			c = alternative(c, set("b"))
		}
	}
	return c
}

// balanced is a valid core of that size but for the limit, with as few levels as
// may be.
func balanced(size int) core.Core {
	switch size {
	case 1:
		return empty()
	case 2:
		return renewal(set("c"))
	}
	return concat(balanced((size-1)/2), balanced(size-1-(size-1)/2))
}

// shared is a core whose two elements share their contents at each of so many
// levels.
func shared(levels int) core.Core {
	c := set("a")
	for range levels {
		c = concat(c, c)
	}
	return c
}

// wantGood asks that c is valid, or is not, and for what hangs on that.
func wantGood(t *testing.T, want bool, c core.Core) {
	t.Helper()
	if got := core.Good(c); got != want {
		t.Errorf("Good of %s: %v", show(c), got)
	}
	if got := core.Text(c); (got != "") != want {
		t.Errorf("Text of %s: %q", show(c), got[:min(len(got), 100)])
	}
}

// wantAnywhere asks that c is valid, or is not, wherever it may stand.
func wantAnywhere(t *testing.T, want bool, c core.Core) {
	t.Helper()
	for _, x := range []core.Core{
		c,
		concat(c, empty()),
		concat(empty(), c),
		alternative(c, nothing()),
		alternative(nothing(), c),
		alternative(c, c),
		star(c),
		group(api.MaxGroups, c),
		renewal(c),
		concat(alternative(set("a"), renewal(group(1, concat(star(c), set(""))))), empty()),
	} {
		wantGood(t, want, x)
	}
}

func TestEachKind(t *testing.T) {
	for _, c := range kinds() {
		wantAnywhere(t, true, c)
		for _, x := range kinds() {
			wantAnywhere(t, true, concat(c, x))
			wantAnywhere(t, true, alternative(c, x))
		}
		wantAnywhere(t, true, star(c))
		wantAnywhere(t, true, group(2, c))
		wantAnywhere(t, true, renewal(c))
	}
	// A group may occur more than once, also within itself.
	wantAnywhere(t, true, concat(group(1, set("a")), renewal(group(1, set("a")))))
	wantAnywhere(t, true, group(1, group(1, set("a"))))
	wantAnywhere(t, true, group(5, group(3, set("a"))))
}

func TestSetsOfOneByte(t *testing.T) {
	wantAnywhere(t, true, set(""))
	wantAnywhere(t, true, core.Core{Kind: 2})
	wantAnywhere(t, true, core.Core{Kind: 2, Set: byteset.All(), L: []core.Core{}})
	for b := range 256 {
		wantGood(t, true, core.Core{Kind: 2, Set: byteset.Of(byte(b))})
		wantGood(t, true, core.Core{Kind: 2, Set: byteset.Of(byte(b)).Not()})
	}
}

// TestOtherFields asks that the fields that are not of a core's kind are zero.
func TestOtherFields(t *testing.T) {
	for _, c := range kinds() {
		for b := range 256 {
			wrong := c
			wrong.Set = byteset.Of(byte(b))
			wantGood(t, c.Kind == 2, wrong)
		}
		for _, s := range []byteset.Set{of("ab"), byteset.All(), {0, 1}, {0, 0, 1 << 63}, {0, 0, 0, 1}} {
			wrong := c
			wrong.Set = s
			wantAnywhere(t, c.Kind == 2, wrong)
		}
		if c.Kind == 6 {
			continue
		}
		for _, n := range []int{1, 2, api.MaxGroups, api.MaxGroups + 1, 256, 1 << 32, -1, math.MaxInt, math.MinInt} {
			wrong := c
			wrong.N = n
			wantAnywhere(t, false, wrong)
		}
	}
}

func TestNumbersOfGroups(t *testing.T) {
	for n := -3; n <= api.MaxGroups+3; n++ {
		wantAnywhere(t, 1 <= n && n <= api.MaxGroups, group(n, set("a")))
	}
	for _, n := range []int{64, 255, 256, 257, 1<<32 + 1, 1 << 32, -1 << 32, 1 - 1<<32, math.MinInt, math.MaxInt} {
		wantAnywhere(t, false, group(n, set("a")))
	}
}

// TestNumberOfElements asks how many elements a core of each kind has.
func TestNumberOfElements(t *testing.T) {
	counts := []int{0, 0, 0, 2, 2, 1, 1, 1}
	for kind, count := range counts {
		for n := range 6 {
			for _, element := range []core.Core{empty(), nothing(), set("a"), concat(set("a"), empty())} {
				c := core.Core{Kind: kind, L: slices.Repeat([]core.Core{element}, n)}
				if kind == 6 {
					c.N = 1
				}
				wantAnywhere(t, n == count, c)
			}
		}
	}
}

func TestUnknownKinds(t *testing.T) {
	for _, kind := range []int{-1, -2, -7, 8, 9, 10, 16, 255, 256, 257, 1 << 32, 1<<32 + 1, math.MaxInt, math.MinInt} {
		wantAnywhere(t, false, core.Core{Kind: kind})
		for n := range 4 {
			wantAnywhere(t, false, core.Core{Kind: kind, L: slices.Repeat([]core.Core{set("a")}, n)})
			wantGood(t, false, core.Core{Kind: kind, N: 1, L: slices.Repeat([]core.Core{set("a")}, n)})
		}
		wantGood(t, false, core.Core{Kind: kind, Set: of("a")})
	}
}

// cores are all cores of that size, of the kinds -1 to 8, with any number of
// elements and no field wrong.
func cores(size int) []core.Core {
	var all []core.Core
	for _, l := range forests(size - 1) {
		for kind := -1; kind <= 8; kind++ {
			c := core.Core{Kind: kind, L: l}
			if kind == 6 {
				c.N = size
			}
			all = append(all, c)
		}
	}
	return all
}

// forests are all lists of cores with that many parts in all.
func forests(size int) [][]core.Core {
	if size == 0 {
		return [][]core.Core{nil}
	}
	var all [][]core.Core
	for first := 1; first <= size; first++ {
		rest := forests(size - first)
		for _, c := range cores(first) {
			for _, l := range rest {
				all = append(all, append([]core.Core{c}, l...))
			}
		}
	}
	return all
}

// modelGood tells whether c is as described, and asks for nothing of its size.
func modelGood(c core.Core) bool {
	counts := []int{0, 0, 0, 2, 2, 1, 1, 1}
	if c.Kind < 0 || c.Kind >= len(counts) || len(c.L) != counts[c.Kind] {
		return false
	}
	return !slices.ContainsFunc(c.L, func(x core.Core) bool { return !modelGood(x) })
}

func TestAllSmallCores(t *testing.T) {
	good := 0
	for size := 1; size <= 4; size++ {
		for _, c := range cores(size) {
			if core.Size(c) != size {
				t.Errorf("Size of %s: %d, want %d", show(c), core.Size(c), size)
			}
			if modelGood(c) {
				good++
			}
			wantGood(t, modelGood(c), c)
			if want := modelText(c); modelGood(c) && core.Text(c) != want {
				t.Errorf("Text of %s: %q, want %q", show(c), core.Text(c), want)
			}
		}
	}
	// The model isn't one that refuses, or takes, all of them.
	if good < 100 {
		t.Errorf("%d cores are good", good)
	}
}

// TestMaxCore asks that a Size of MaxCore is valid, and one more is not.
func TestMaxCore(t *testing.T) {
	for size := api.MaxCore - 3; size <= api.MaxCore+3; size++ {
		for _, c := range []core.Core{
			nested(size-1, empty()),
			vine(size, true),
			vine(size, false),
			balanced(size),
			concat(balanced(1000), balanced(size-1001)),
			alternative(vine(size-11, true), nested(9, set("a"))),
			group(1, renewal(star(balanced(size-3)))),
		} {
			if got := core.Size(c); got != size {
				t.Errorf("Size of %s: %d, want %d", show(c), got, size)
			}
			wantGood(t, size <= api.MaxCore, c)
		}
	}
}

// TestLevels goes down as deep as the size lets it: MaxCore levels. A core that
// is nested 4 MaxCore levels deep, or one level deeper, has a greater Size, so
// that none of both is valid.
func TestLevels(t *testing.T) {
	for _, c := range []struct {
		levels int
		want   bool
	}{
		{1, true},
		{2, true},
		{500, true},
		{501, true},
		{api.MaxCore - 1, true},
		{api.MaxCore, true},
		{api.MaxCore + 1, false},
		{4*api.MaxCore - 1, false},
		{4 * api.MaxCore, false},
		{4*api.MaxCore + 1, false},
		{65535, false},
		{65536, false},
	} {
		for _, kind := range []int{5, 6, 7} {
			x := set("a")
			for range c.levels - 1 {
				x = core.Core{Kind: kind, L: []core.Core{x}}
				if kind == 6 {
					x.N = 7
				}
			}
			wantGood(t, c.want, x)
		}
		wantGood(t, c.want && c.levels <= (api.MaxCore+1)/2, vine(2*c.levels-1, true))
		wantGood(t, c.want && c.levels <= (api.MaxCore+1)/2, vine(2*c.levels-1, false))
	}
}

// TestFaultsAnywhere puts one fault into a large core, at each of its parts.
func TestFaultsAnywhere(t *testing.T) {
	base := clone(balanced(199))
	wantGood(t, true, base)
	for at := range core.Size(base) {
		for _, change := range []func(c *core.Core){
			func(c *core.Core) { c.Kind = 8 },
			func(c *core.Core) { c.N = 1 },
			func(c *core.Core) { c.L = append(c.L, set("a"), set("b"), set("c")) },
		} {
			wrong := clone(base)
			change(partAt(&wrong, at))
			wantGood(t, false, wrong)
		}
	}
}

// partAt is the part of c that begins as the one with that index.
func partAt(c *core.Core, at int) *core.Core {
	var found *core.Core
	walk(c, func(x *core.Core) {
		if at == 0 {
			found = x
		}
		at--
	})
	return found
}
