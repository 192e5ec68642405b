package core_test

import (
	"fmt"
	"math"
	"slices"
	"testing"

	"catchpole/api"
	"catchpole/byteset"
	"catchpole/core"
)

// most is the Size of cores that are greater than that.
const most = 100000

func TestSize(t *testing.T) {
	a, b := set("a"), set("b")
	for _, x := range []struct {
		c    core.Core
		size int
	}{
		{nothing(), 1},
		{empty(), 1},
		{a, 1},
		{core.Core{Kind: 2, Set: byteset.All()}, 1},
		{core.Core{Kind: 1, L: []core.Core{}}, 1},
		{concat(a, b), 3},
		{concat(a, a), 3},
		{alternative(a, b), 3},
		{star(a), 2},
		{group(1, a), 2},
		{group(32, a), 2},
		{renewal(a), 2},
		{concat(), 1},
		{concat(a), 2},
		{concat(a, b, a), 4},
		{alternative(nothing(), empty(), a, b), 5},
		{star(), 1},
		{star(a, b), 3},
		{core.Core{Kind: 0, L: []core.Core{a}}, 2},
		{core.Core{Kind: 1, L: []core.Core{a, b}}, 3},
		{core.Core{Kind: 2, L: []core.Core{a, b, a}}, 4},
		{core.Core{Kind: 42, L: []core.Core{a, b}}, 3},
		{core.Core{Kind: -1, L: []core.Core{star(a), b}}, 4},
		{concat(star(a), renewal(group(1, a))), 6},
		{alternative(concat(a, star(alternative(a, concat(a, b)))), renewal(b)), 11},
		{concat(renewal(star(a)), b), 5},
		{concat(b, renewal(star(a))), 5},
	} {
		if got := core.Size(x.c); got != x.size {
			t.Errorf("Size of %s: %d, want %d", show(x.c), got, x.size)
		}
	}
}

// many is a core of that kind with that many elements.
func many(kind, count int) core.Core {
	return core.Core{Kind: kind, L: slices.Repeat([]core.Core{set("a")}, count)}
}

// rows is a core with that many elements, each of them with that many.
func rows(count, each int) core.Core {
	c := core.Core{Kind: 3}
	for range count {
		c.L = append(c.L, many(4, each))
	}
	return c
}

func TestMaxSize(t *testing.T) {
	wantSize := func(what string, c core.Core, size int) {
		t.Helper()
		if got := core.Size(c); got != min(size, most) {
			t.Errorf("Size of %s of %d parts: %d", what, size, got)
		}
		wantGood(t, false, c)
	}
	for _, size := range []int{
		65535, 65536, 65537, most - 2, most - 1, most, most + 1, most + 2, most + 3,
	} {
		for kind := range 9 {
			wantSize("a wide core", many(kind, size-1), size)
		}
		wantSize("a wide core in a star", star(many(3, size-2)), size)
		wantSize("a wide core ahead of one", concat(many(4, size-3), set("a")), size)
		wantSize("a wide core behind one", concat(set("a"), many(4, size-3)), size)
		wantSize("two wide cores", concat(many(4, 50000), many(4, size-50003)), size)
		wantSize("a vine", vine(size, true), size)
		wantSize("a vine", vine(size, false), size)
		wantSize("a balanced core", balanced(size), size)
	}
	for _, count := range []int{99, 100, 249, 250, 300, 316} {
		for _, each := range []int{331, 332, 333, 400, 401, 999, 1000} {
			wantSize("rows", rows(count, each), 1+count*(1+each))
		}
	}
	wantSize("a wide core", many(3, 1000000), 1000001)
	wantSize("a vine", vine(131000, true), 131000)
	wantSize("a chain", nested(65535, set("a")), 65536)
}

// TestSharedParts asks of cores that share their contents: of far more parts
// than anybody can count.
func TestSharedParts(t *testing.T) {
	size := 1
	for levels := range 200 {
		c := shared(levels)
		if got := core.Size(c); got != size {
			t.Errorf("Size of %d shared levels: %d, want %d", levels, got, size)
		}
		wantGood(t, size <= api.MaxCore, c)
		want := []byteset.Set{of("a")}
		if size > api.MaxCore {
			want = nil
		}
		if got := core.Sets(c); !slices.Equal(got, want) {
			t.Errorf("Sets of %d shared levels: %v", levels, got)
		}
		if got := core.Groups(c); len(got) != 0 {
			t.Errorf("Groups of %d shared levels: %v", levels, got)
		}
		size = min(2*size+1, most)
	}
}

func TestSets(t *testing.T) {
	a, b, c := set("a"), set("b"), set("c")
	for _, x := range []struct {
		c    core.Core
		want string
	}{
		{nothing(), ""},
		{empty(), ""},
		{a, "a"},
		{concat(a, b), "ab"},
		{concat(b, a), "ba"},
		{concat(a, a), "a"},
		{alternative(a, b), "ab"},
		{alternative(b, a), "ba"},
		{alternative(b, b), "b"},
		{star(b), "b"},
		{group(1, b), "b"},
		{renewal(b), "b"},
		{concat(a, concat(b, c)), "abc"},
		{concat(concat(c, b), a), "cba"},
		{concat(concat(c, c), alternative(b, concat(c, a))), "cba"},
		{concat(a, renewal(a)), "a"},
		{alternative(star(group(3, c)), concat(renewal(a), star(alternative(c, b)))), "cab"},
		{concat(empty(), alternative(nothing(), c)), "c"},
		{renewal(group(2, concat(b, group(2, alternative(a, b))))), "ba"},
	} {
		var want []byteset.Set
		for _, letter := range x.want {
			want = append(want, of(string(letter)))
		}
		if got := core.Sets(x.c); !slices.Equal(got, want) {
			t.Errorf("Sets of %s: %v, want %v", show(x.c), got, want)
		}
	}
}

// joined is the concatenation of l, one after the other.
func joined(l ...core.Core) core.Core {
	c := l[len(l)-1]
	for _, x := range slices.Backward(l[:len(l)-1]) {
		c = concat(x, c)
	}
	return c
}

// TestSetsThatOverlap asks that sets are duplicates just if they are the same.
func TestSetsThatOverlap(t *testing.T) {
	all := core.Core{Kind: 2, Set: byteset.All()}
	c := joined(set("ab"), set("a"), all, set(""), set("ba"), set("b"), set("abc"), all, set("a"), set("\x00"), set(""), set("\xff"))
	want := []byteset.Set{of("ab"), of("a"), byteset.All(), of(""), of("b"), of("abc"), of("\x00"), of("\xff")}
	if got := core.Sets(c); !slices.Equal(got, want) {
		t.Errorf("Sets: %v, want %v", got, want)
	}
	var each []core.Core
	want = nil
	for b := 255; b >= 0; b-- {
		each = append(each, core.Core{Kind: 2, Set: byteset.Of(byte(b))})
		want = append(want, byteset.Of(byte(b)))
	}
	if got := core.Sets(alternative(joined(each...), joined(each...))); !slices.Equal(got, want) {
		t.Errorf("Sets of each byte: %v", got)
	}
	var many []core.Core
	want = nil
	for i := range api.MaxCore / 2 {
		s := byteset.Set{uint64(i), uint64(i % 7), 0, 1 << 63}
		many, want = append(many, core.Core{Kind: 2, Set: s}), append(want, s)
	}
	if got := core.Sets(joined(many...)); !slices.Equal(got, want) {
		t.Errorf("%d sets of %d", len(got), len(want))
	}
}

func TestGroups(t *testing.T) {
	a := set("a")
	for _, x := range []struct {
		c    core.Core
		want []int
	}{
		{nothing(), nil},
		{empty(), nil},
		{a, nil},
		{star(concat(a, renewal(a))), nil},
		{group(1, a), []int{1}},
		{group(32, a), []int{32}},
		{concat(group(1, a), group(2, a)), []int{1, 2}},
		{concat(group(2, a), group(1, a)), []int{2, 1}},
		{alternative(group(2, a), group(1, a)), []int{2, 1}},
		{concat(group(1, a), group(1, a)), []int{1}},
		{concat(group(1, a), renewal(group(1, a))), []int{1}},
		{group(1, group(2, a)), []int{1, 2}},
		{group(2, group(1, a)), []int{2, 1}},
		{group(2, group(2, a)), []int{2}},
		{star(group(5, a)), []int{5}},
		{renewal(group(5, a)), []int{5}},
		{group(3, concat(group(1, a), group(2, a))), []int{3, 1, 2}},
		{concat(concat(group(7, a), group(9, a)), alternative(group(8, a), group(7, a))), []int{7, 9, 8}},
		{concat(a, concat(group(4, star(group(30, a))), concat(renewal(group(4, star(group(30, a)))), group(3, a)))), []int{4, 30, 3}},
	} {
		if got := core.Groups(x.c); !slices.Equal(got, x.want) {
			t.Errorf("Groups of %s: %v, want %v", show(x.c), got, x.want)
		}
	}
	var down, up []core.Core
	var downwards, upwards []int
	for n := 1; n <= api.MaxGroups; n++ {
		up, upwards = append(up, group(n, a)), append(upwards, n)
		down, downwards = append(down, group(33-n, a)), append(downwards, 33-n)
	}
	if got := core.Groups(concat(joined(up...), joined(down...))); !slices.Equal(got, upwards) {
		t.Errorf("Groups of all: %v", got)
	}
	if got := core.Groups(alternative(joined(down...), joined(up...))); !slices.Equal(got, downwards) {
		t.Errorf("Groups of all, the last one first: %v", got)
	}
}

// rich has parts of all kinds, and of none, with all fields in use somewhere.
func rich() core.Core {
	return alternative(
		concat(set("a"), star(group(1, concat(set("bc"), renewal(set("\x00\xff")))))),
		group(2, alternative(alternative(set("d"), empty()), star(group(3, nothing())))),
		core.Core{Kind: 2, Set: byteset.All(), L: []core.Core{set("e"), set("f"), {}}},
		core.Core{Kind: 8, Set: byteset.Set{1, 2, 3, 4}, N: 10, L: []core.Core{{Kind: -1, N: -1}}},
		core.Core{Kind: 6, N: math.MinInt},
	)
}

// wantSame asks in both orders whether two cores are equal.
func wantSame(t *testing.T, want bool, a, b core.Core) {
	t.Helper()
	if got := core.Same(a, b); got != want {
		t.Errorf("Same of %s and %s: %v", show(a), show(b), got)
	}
	if got := core.Same(b, a); got != want {
		t.Errorf("Same of %s and %s: %v", show(b), show(a), got)
	}
}

func TestSame(t *testing.T) {
	all := append(kinds(), rich(), core.Core{Kind: 8}, set("ab"), set(""), concat(set("b"), set("a")), group(2, set("a")), star(set("b")))
	for i, a := range all {
		for j, b := range all {
			wantSame(t, i == j, a, clone(b))
			wantSame(t, i == j, nested(50, a), nested(50, clone(b)))
		}
		wantSame(t, true, a, a)
	}
}

// TestSameButForOne alters each field of each part, each time one alone.
func TestSameButForOne(t *testing.T) {
	changes := []func(c *core.Core){
		func(c *core.Core) { c.Kind++ },
		func(c *core.Core) { c.Kind = -c.Kind - 1 },
		func(c *core.Core) { c.Kind ^= 1 << 40 },
		func(c *core.Core) { c.Set[0] ^= 1 },
		func(c *core.Core) { c.Set[1] ^= 1 << 63 },
		func(c *core.Core) { c.Set[2] ^= 1 << 32 },
		func(c *core.Core) { c.Set[3] ^= 1 << 63 },
		func(c *core.Core) { c.N++ },
		func(c *core.Core) { c.N ^= 1 << 40 },
		func(c *core.Core) { c.L = append(c.L, set("a")) },
		func(c *core.Core) { c.L = append(c.L, core.Core{}) },
		func(c *core.Core) { c.L = append([]core.Core{set("z")}, c.L...) },
		func(c *core.Core) { c.L = append(slices.Clone(c.L), c.L...); c.L = append(c.L, core.Core{}) },
	}
	for _, deeper := range []int{0, 1, 100} {
		base := nested(deeper, rich())
		for at := range core.Size(base) {
			for _, change := range changes {
				other := clone(base)
				change(partAt(&other, at))
				wantSame(t, false, base, other)
			}
			other := clone(base)
			if x := partAt(&other, at); len(x.L) > 0 {
				x.L = x.L[:len(x.L)-1]
				wantSame(t, false, base, other)
				x.L = nil
				wantSame(t, false, base, other)
			}
		}
	}
	a, b, c := set("a"), set("b"), set("c")
	wantSame(t, false, concat(a, b), concat(b, a))
	wantSame(t, false, concat(concat(a, b), c), concat(a, concat(b, c)))
	wantSame(t, false, concat(a, b), alternative(a, b))
	wantSame(t, false, renewal(a), star(a))
	wantSame(t, false, renewal(a), a)
	wantSame(t, false, group(1, a), group(2, a))
	wantSame(t, false, alternative(a, a), a)
}

// TestNoElements asks R4: a nil L and an empty one are equivalent, in each
// function.
func TestNoElements(t *testing.T) {
	wantSame(t, true, core.Core{}, core.Core{L: []core.Core{}})
	wantSame(t, true, set("a"), core.Core{Kind: 2, Set: of("a"), L: make([]core.Core, 0, 3)})
	wantSame(t, false, core.Core{}, core.Core{L: []core.Core{{}}})
	for _, c := range append(kinds(), rich()) {
		full, none := clone(c), clone(c)
		walk(&none, func(x *core.Core) {
			if len(x.L) == 0 {
				x.L = nil
			}
		})
		wantSame(t, true, full, none)
		if core.Good(full) != core.Good(none) || core.Size(full) != core.Size(none) || core.Text(full) != core.Text(none) ||
			!slices.Equal(core.Sets(full), core.Sets(none)) || !slices.Equal(core.Groups(full), core.Groups(none)) {
			t.Errorf("%s: other answers with empty lists", show(c))
		}
	}
}

// TestSameOfMany asks of wide and of deep cores.
func TestSameOfMany(t *testing.T) {
	for _, build := range []func() core.Core{
		func() core.Core { return many(3, 200000) },
		func() core.Core { return vine(100001, true) },
		func() core.Core { return nested(65534, star(set("a"))) },
	} {
		a, b := build(), build()
		wantSame(t, true, a, b)
		c := &b
		for len(c.L) > 0 {
			c = &c.L[len(c.L)-1]
		}
		c.N = 1
		wantSame(t, false, a, b)
	}
}

// roomy is c with spare capacity in each list, in which a mark stands.
func roomy(c core.Core) core.Core {
	l := make([]core.Core, len(c.L), len(c.L)+2)
	for i, x := range c.L {
		l[i] = roomy(x)
	}
	for i := len(l); i < cap(l); i++ {
		l[:cap(l)][i] = mark()
	}
	c.L = l
	return c
}

func mark() core.Core { return core.Core{Kind: 6, N: 42, L: []core.Core{{Kind: 43}}} }

// overwrite puts another thing over a list and its spare capacity.
func overwrite[T any](l []T, x T) {
	l = l[:cap(l)]
	for i := range l {
		l[i] = x
	}
}

// TestArgumentsRemain asks R4: what is given is neither changed, nor its spare
// capacity.
func TestArgumentsRemain(t *testing.T) {
	for _, c := range append(kinds(), rich(), rich().L[0], rich().L[1], balanced(100)) {
		given := roomy(c)
		core.Good(given)
		core.Size(given)
		core.Text(given)
		overwrite(core.Sets(given), of("mark"))
		overwrite(core.Groups(given), 42)
		core.Same(given, given)
		core.Same(given, rich())
		if !equal(given, c) {
			t.Errorf("%s became %s", show(c), show(given))
		}
		walk(&given, func(x *core.Core) {
			for i := len(x.L); i < cap(x.L); i++ {
				if !equal(x.L[:cap(x.L)][i], mark()) {
					t.Errorf("%s: its spare capacity was changed", show(c))
				}
			}
		})
	}
}

// TestResultsAreNew asks R4 and R5: what is done with an answer is not to be
// seen in another one.
func TestResultsAreNew(t *testing.T) {
	var l []core.Core
	for i := range 30 {
		l = append(l, group(i+1, set(string(rune('a'+i)))))
	}
	for _, c := range append(kinds(), rich().L[0], rich().L[1], joined(l...)) {
		sets, groups := core.Sets(c), core.Groups(c)
		wantSets, wantGroups := slices.Clone(sets), slices.Clone(groups)
		overwrite(core.Sets(c), of("mark"))
		overwrite(core.Groups(c), 42)
		if !slices.Equal(sets, wantSets) || !slices.Equal(groups, wantGroups) {
			t.Errorf("%s: an answer shares memory with a later one", show(c))
		}
		if !slices.Equal(core.Sets(c), wantSets) || !slices.Equal(core.Groups(c), wantGroups) {
			t.Errorf("%s: an answer shares memory with an earlier one", show(c))
		}
	}
}

// TestArbitraryCores asks R1: each call ends, whatever it is given.
func TestArbitraryCores(t *testing.T) {
	long := vine(most+1, true)
	for kind := -2; kind <= 10; kind++ {
		for _, x := range []int{0, 1, -1, 300, math.MaxInt, math.MinInt} {
			for _, l := range [][]core.Core{nil, {{}}, {set("a"), {Kind: kind}}, {many(kind, 1000)}, {long}, {shared(60), shared(60)}} {
				c := core.Core{Kind: kind, Set: byteset.Set{uint64(x)}, N: x, L: l}
				good := core.Good(c)
				core.Size(c)
				if sets, groups := core.Sets(c), core.Groups(c); !good && (len(sets) != 0 || len(groups) != 0) {
					t.Errorf("%s isn't valid: %v, %v", show(c), sets, groups)
				}
				if text := core.Text(c); (text != "") != good {
					t.Errorf("%s has the text %q", show(c), text)
				}
				if len(l) < 2 && !core.Same(c, c) {
					t.Errorf("%s isn't the same as itself", show(c))
				}
			}
		}
	}
}

func ExampleText() {
	fmt.Println(core.Text(concat(set("a"), renewal(set("a")))))
	// Output: (<61>.(~<61>))
}
