package tree_test

import (
	"fmt"
	"math"
	"slices"
	"testing"

	"catchpole/api"
	"catchpole/byteset"
	"catchpole/tree"
)

// most is the Size of nodes that are greater than that.
const most = 100000

func TestDepthAndSize(t *testing.T) {
	a, b := set("a"), set("b")
	for _, c := range []struct {
		n           tree.Node
		depth, size int
	}{
		{a, 1, 1},
		{tree.Node{}, 1, 1},
		{tree.Node{Kind: 3}, 1, 1},
		{tree.Node{Kind: 2, L: []tree.Node{}}, 1, 1},
		{concat(a, b), 2, 3},
		{concat(a, a), 2, 3},
		{concat(a, b, a), 2, 4},
		{alternative(a, b), 2, 3},
		{repeat(2, 3, a), 2, 2},
		{repeat(255, 255, a), 2, 2},
		{group(7, a), 2, 2},
		{bracket(a), 2, 2},
		{tree.Node{Kind: 42, L: []tree.Node{a, b}}, 2, 3},
		{tree.Node{Kind: 0, L: []tree.Node{{}, {}}}, 2, 3},
		{tree.Node{Kind: -1, L: []tree.Node{{}, {Kind: 1, L: []tree.Node{{}}}}}, 3, 4},
		{tree.Node{Kind: 1, Set: of("a"), L: []tree.Node{a}}, 2, 2},
		{concat(bracket(a), repeat(0, -1, group(1, a))), 4, 6},
		{concat(bracket(bracket(a)), b), 4, 5},
		{concat(b, bracket(bracket(a))), 4, 5},
		{concat(b, bracket(bracket(a)), b), 4, 6},
		{concat(bracket(a), bracket(bracket(a)), bracket(a)), 4, 8},
		{concat(bracket(bracket(a)), bracket(a), b), 4, 7},
		{alternative(concat(a, repeat(1, 1, bracket(alternative(a, concat(a, b))))), b), 7, 11},
	} {
		if got := tree.Depth(c.n); got != c.depth {
			t.Errorf("Depth of %s: %d, want %d", show(c.n), got, c.depth)
		}
		if got := tree.Size(c.n); got != c.size {
			t.Errorf("Size of %s: %d, want %d", show(c.n), got, c.size)
		}
	}
}

// wantLevels asks for Depth, and for Good, of a node that is valid but for its
// depth.
func wantLevels(t *testing.T, n tree.Node, levels int) {
	t.Helper()
	n = numbered(n)
	if got, want := tree.Depth(n), min(levels, api.MaxDepth+1); got != want {
		t.Errorf("Depth of %s: %d, want %d", show(n), got, want)
	}
	wantGood(t, levels <= api.MaxDepth, n, groupsOf(n))
}

// TestMaxDepth asks at MaxDepth and beyond it, with the deepest node at each
// place.
func TestMaxDepth(t *testing.T) {
	for _, levels := range []int{
		1, 2, 3, 10, api.MaxDepth - 2, api.MaxDepth - 1, api.MaxDepth, api.MaxDepth + 1, api.MaxDepth + 2, api.MaxDepth + 3,
		2 * api.MaxDepth, 1000, api.MaxCore, api.MaxCore + 1, 10000,
	} {
		n := nested(levels-1, set("a"))
		wantLevels(t, n, levels)
		for at := range 4 {
			l := []tree.Node{set("a"), nested(4, set("b")), set("c"), set("d")}
			others := 5
			if at == 1 {
				others = 1
			}
			l[at] = n
			wantLevels(t, concat(l...), 1+max(levels, others))
			wantLevels(t, alternative(l...), 1+max(levels, others))
			if got, want := tree.Depth(tree.Node{Kind: 9, L: l}), min(1+max(levels, others), api.MaxDepth+1); got != want {
				t.Errorf("Depth of kind 9 with %d levels at %d: %d, want %d", levels, at, got, want)
			}
		}
	}
	for _, levels := range []int{65535, 65536} {
		n := nested(levels-1, set("a"))
		if got := tree.Depth(n); got != api.MaxDepth+1 {
			t.Errorf("Depth of %d levels: %d", levels, got)
		}
		wantGood(t, false, n, 0)
	}
}

// TestMaxDepthOfEachKind goes down to MaxDepth and beyond it through nodes of
// each kind.
func TestMaxDepthOfEachKind(t *testing.T) {
	a, b := set("a"), set("b")
	for _, c := range []struct {
		levels int
		deeper func(tree.Node) tree.Node
	}{
		{1, func(n tree.Node) tree.Node { return bracket(n) }},
		{2, func(n tree.Node) tree.Node { return concat(a, bracket(n)) }},
		{2, func(n tree.Node) tree.Node { return concat(bracket(n), a, b) }},
		{2, func(n tree.Node) tree.Node { return bracket(alternative(a, n, b)) }},
		{2, func(n tree.Node) tree.Node { return repeat(0, 1, bracket(n)) }},
		{3, func(n tree.Node) tree.Node { return group(0, repeat(1, 1, bracket(n))) }},
	} {
		for start := range c.levels {
			n := nested(start, group(0, a))
			for levels := start + 2; levels <= 2*api.MaxDepth; levels += c.levels {
				wantLevels(t, n, levels)
				n = c.deeper(n)
			}
		}
	}
}

// many is a node of that kind with that many nodes in L.
func many(kind, count int) tree.Node {
	return tree.Node{Kind: kind, L: slices.Repeat([]tree.Node{set("a")}, count)}
}

// vine is a node of that size, which goes down by one of two nodes at each
// level: by the second one if it is on the right.
func vine(size int, right bool) tree.Node {
	n := set("a")
	if size%2 == 0 {
		n, size = bracket(n), size-1
	}
	for ; size > 1; size -= 2 {
		if right {
			n = tree.Node{Kind: 2, L: []tree.Node{set("b"), n}}
		} else {
			n = tree.Node{Kind: 2, L: []tree.Node{n, set("b")}}
		}
	}
	return n
}

// rows is a node with that many nodes, each of them with that many.
func rows(count, each int) tree.Node {
	n := tree.Node{Kind: 3}
	for range count {
		n.L = append(n.L, many(2, each))
	}
	return n
}

func TestMaxSize(t *testing.T) {
	wantSize := func(what string, n tree.Node, size int) {
		t.Helper()
		if got := tree.Size(n); got != min(size, most) {
			t.Errorf("Size of %s of %d nodes: %d", what, size, got)
		}
		wantGood(t, false, n, 0)
	}
	for _, size := range []int{
		65535, 65536, 65537, most - 2, most - 1, most, most + 1, most + 2, most + 3,
	} {
		for kind := range 8 {
			wantSize("a wide node", many(kind, size-1), size)
		}
		wantSize("a wide node in a bracket", bracket(many(2, size-2)), size)
		wantSize("a wide node ahead of one", concat(many(6, size-3), set("a")), size)
		wantSize("a wide node behind one", concat(set("a"), many(6, size-3)), size)
		wantSize("two wide nodes", concat(many(6, 50000), many(6, size-50003)), size)
		wantSize("a vine", vine(size, true), size)
		wantSize("a vine", vine(size, false), size)
	}
	for _, count := range []int{99, 100, 249, 250, 300, 316} {
		for _, each := range []int{331, 332, 333, 400, 401, 999, 1000} {
			wantSize("rows", rows(count, each), 1+count*(1+each))
		}
	}
	wantSize("a wide node", many(2, 1000000), 1000001)
	wantSize("a vine", vine(131000, true), 131000)
	wantSize("a chain", nested(65535, set("a")), 65536)
}

// TestSharedNodes asks of nodes that share their contents: of far more than
// anybody can count.
func TestSharedNodes(t *testing.T) {
	n, size := set("a"), 1
	for levels := 1; levels < 4*api.MaxDepth; levels += 2 {
		if got := tree.Size(n); got != size {
			t.Errorf("Size of %d shared levels: %d, want %d", levels, got, size)
		}
		wantGood(t, size <= api.MaxCore, n, 0)
		// Between these there are more nodes than the limits allow, and none of
		// them is deep enough for Depth to stop.
		if levels < 40 || levels > 2*api.MaxDepth {
			if got, want := tree.Depth(n), min(levels, api.MaxDepth+1); got != want {
				t.Errorf("Depth of %d shared levels: %d, want %d", levels, got, want)
			}
		}
		n = bracket(n)
		n, size = concat(n, n), min(2*size+3, most)
	}
}

// TestMaxCore asks that a size of MaxCore is good, and one more is not.
func TestMaxCore(t *testing.T) {
	for size := api.MaxCore - 3; size <= api.MaxCore+3; size++ {
		for _, n := range []tree.Node{
			concat(sets(size - 1)...),
			alternative(sets(size - 1)...),
			many(2, size-1),
			many(3, size-1),
			bracket(concat(sets(size - 2)...)),
			nested(api.MaxDepth-2, concat(sets(size-api.MaxDepth+1)...)),
			alternative(concat(sets(1000)...), concat(sets(size-1004)...), set("a")),
			alternative(set("a"), concat(sets(size-5)...), repeat(0, -1, set("b"))),
			concat(append(slices.Repeat([]tree.Node{bracket(set("a"))}, 900), sets(size-1801)...)...),
		} {
			if got := tree.Size(n); got != size {
				t.Errorf("Size of %s: %d, want %d", show(n), got, size)
			}
			wantGood(t, size <= api.MaxCore, n, 0)
		}
	}
}

func TestSets(t *testing.T) {
	a, b, c := set("a"), set("b"), set("c")
	for _, x := range []struct {
		n    tree.Node
		want string
	}{
		{a, "a"},
		{concat(a, b), "ab"},
		{concat(b, a), "ba"},
		{concat(a, a), "a"},
		{concat(b, a, b, c, a), "bac"},
		{alternative(c, b, a), "cba"},
		{alternative(c, c, b, b, c), "cb"},
		{repeat(0, -1, b), "b"},
		{repeat(0, 0, b), "b"},
		{repeat(3, 5, b), "b"},
		{group(1, b), "b"},
		{group(32, b), "b"},
		{bracket(b), "b"},
		{concat(c, repeat(0, 0, bracket(alternative(a, concat(b, a)))), group(1, c), set("d")), "cabd"},
		{alternative(concat(repeat(2, 2, group(1, c)), bracket(group(2, b))), a), "cba"},
		{concat(bracket(bracket(c)), a, group(1, group(2, b)), c), "cab"},
		{group(5, alternative(group(6, b), concat(c, a))), "bca"},
	} {
		var want []byteset.Set
		for _, letter := range x.want {
			want = append(want, of(string(letter)))
		}
		if got := tree.Sets(x.n); !slices.Equal(got, want) {
			t.Errorf("Sets of %s: %v, want %v", show(x.n), got, want)
		}
	}
}

// TestSetsThatOverlap asks that sets are duplicates just if they are the same.
func TestSetsThatOverlap(t *testing.T) {
	all := tree.Node{Kind: 1, Set: byteset.All()}
	n := concat(set("ab"), set("a"), all, set("ba"), set("b"), set("abc"), all, set("a"), set("\x00"), set("\xff"))
	want := []byteset.Set{of("ab"), of("a"), byteset.All(), of("b"), of("abc"), of("\x00"), of("\xff")}
	if got := tree.Sets(n); !slices.Equal(got, want) {
		t.Errorf("Sets: %v, want %v", got, want)
	}
	var each []tree.Node
	want = nil
	for b := 255; b >= 0; b-- {
		each = append(each, tree.Node{Kind: 1, Set: byteset.Of(byte(b))})
		want = append(want, byteset.Of(byte(b)))
	}
	if got := tree.Sets(alternative(concat(each...), concat(each...))); !slices.Equal(got, want) {
		t.Errorf("Sets of each byte: %v", got)
	}
	l := sets(api.MaxCore - 1)
	if got := tree.Sets(concat(l...)); len(got) != len(l) || got[len(l)-1] != l[len(l)-1].Set {
		t.Errorf("%d sets of %d", len(got), len(l))
	}
}

// rich has nodes of all kinds, and of none, with all fields in use somewhere.
func rich() tree.Node {
	return alternative(
		concat(set("a"), repeat(2, 5, group(1, concat(set("bc"), bracket(set("\x00\xff"))))), set("a")),
		group(2, alternative(set("d"), repeat(0, -1, group(3, set("."))))),
		tree.Node{Kind: 1, Set: byteset.All(), L: []tree.Node{set("e"), set("f"), {}}},
		tree.Node{Kind: 7, Set: byteset.Set{1, 2, 3, 4}, Lo: 8, Hi: 9, N: 10, L: []tree.Node{{Kind: -1, Hi: -1}}},
		tree.Node{Kind: 4, Lo: math.MinInt, Hi: math.MaxInt, N: -5},
	)
}

// wantSame asks in both orders whether two nodes are equal.
func wantSame(t *testing.T, want bool, a, b tree.Node) {
	t.Helper()
	if got := tree.Same(a, b); got != want {
		t.Errorf("Same of %s and %s: %v", show(a), show(b), got)
	}
	if got := tree.Same(b, a); got != want {
		t.Errorf("Same of %s and %s: %v", show(b), show(a), got)
	}
}

func TestSame(t *testing.T) {
	all := append(kinds(), rich(), tree.Node{}, tree.Node{Kind: 7}, set("ab"), concat(set("b"), set("a")), repeat(2, 4, set("a")))
	for i, a := range all {
		for j, b := range all {
			wantSame(t, i == j, a, clone(b))
		}
		wantSame(t, true, a, a)
	}
}

// TestSameButForOne alters each field of each node, each time one alone.
func TestSameButForOne(t *testing.T) {
	changes := []func(n *tree.Node){
		func(n *tree.Node) { n.Kind++ },
		func(n *tree.Node) { n.Kind = -n.Kind - 1 },
		func(n *tree.Node) { n.Set[0] ^= 1 },
		func(n *tree.Node) { n.Set[1] ^= 1 << 63 },
		func(n *tree.Node) { n.Set[2] ^= 1 << 32 },
		func(n *tree.Node) { n.Set[3] ^= 1 << 63 },
		func(n *tree.Node) { n.Lo++ },
		func(n *tree.Node) { n.Lo ^= 1 << 40 },
		func(n *tree.Node) { n.Hi-- },
		func(n *tree.Node) { n.Hi ^= 1 << 40 },
		func(n *tree.Node) { n.N++ },
		func(n *tree.Node) { n.N ^= 1 << 40 },
		func(n *tree.Node) { n.L = append(n.L, set("a")) },
		func(n *tree.Node) { n.L = append(n.L, tree.Node{}) },
		func(n *tree.Node) { n.L = append([]tree.Node{set("z")}, n.L...) },
		func(n *tree.Node) { n.L = append(slices.Clone(n.L), n.L...); n.L = append(n.L, tree.Node{}) },
	}
	for _, deeper := range []int{0, 1, 100} {
		base := nested(deeper, rich())
		for at := range tree.Size(base) {
			for _, change := range changes {
				other := clone(base)
				change(nodeAt(&other, at))
				wantSame(t, false, base, other)
			}
			other := clone(base)
			if x := nodeAt(&other, at); len(x.L) > 0 {
				x.L = x.L[:len(x.L)-1]
				wantSame(t, false, base, other)
				x.L = nil
				wantSame(t, false, base, other)
			}
		}
	}
	a, b, c := set("a"), set("b"), set("c")
	wantSame(t, false, concat(a, b, c), concat(a, c, b))
	wantSame(t, false, concat(a, b, c), concat(b, a, c))
	wantSame(t, false, concat(a, a, b), concat(a, b, b))
	wantSame(t, false, concat(concat(a, b), c), concat(a, concat(b, c)))
	wantSame(t, false, concat(a, b, c), concat(a, b))
	wantSame(t, false, repeat(1, 2, a), repeat(2, 1, a))
	wantSame(t, false, group(1, a), bracket(a))
}

// nodeAt is the node of n that begins as the one with that index.
func nodeAt(n *tree.Node, at int) *tree.Node {
	var found *tree.Node
	walk(n, func(x *tree.Node) {
		if at == 0 {
			found = x
		}
		at--
	})
	return found
}

// TestNoNodes asks R4: a nil L and an empty one are equivalent, in each function.
func TestNoNodes(t *testing.T) {
	wantSame(t, true, tree.Node{}, tree.Node{L: []tree.Node{}})
	wantSame(t, true, set("a"), tree.Node{Kind: 1, Set: of("a"), L: make([]tree.Node, 0, 3)})
	wantSame(t, false, tree.Node{}, tree.Node{L: []tree.Node{{}}})
	for _, n := range append(kinds(), rich()) {
		empty, none := clone(n), clone(n)
		walk(&none, func(x *tree.Node) {
			if len(x.L) == 0 {
				x.L = nil
			}
		})
		wantSame(t, true, empty, none)
		for _, groups := range []int{0, 1} {
			if a, b := (tree.Pattern{Root: empty, Groups: groups}), (tree.Pattern{Root: none, Groups: groups}); tree.Good(a) != tree.Good(b) {
				t.Errorf("Good of %s: %v with empty lists", show(n), tree.Good(a))
			}
		}
		if tree.Size(empty) != tree.Size(none) || tree.Depth(empty) != tree.Depth(none) || !slices.Equal(tree.Sets(empty), tree.Sets(none)) {
			t.Errorf("%s: other answers with empty lists", show(n))
		}
	}
}

// TestSameOfMany asks of wide and of deep nodes.
func TestSameOfMany(t *testing.T) {
	for _, build := range []func() tree.Node{
		func() tree.Node { return many(2, 200000) },
		func() tree.Node { return vine(100001, true) },
		func() tree.Node { return nested(65534, bracket(set("a"))) },
	} {
		a, b := build(), build()
		wantSame(t, true, a, b)
		n := &b
		for len(n.L) > 0 {
			n = &n.L[len(n.L)-1]
		}
		n.Hi = 1
		wantSame(t, false, a, b)
	}
}

// roomy is n with spare capacity in each list, in which a mark stands.
func roomy(n tree.Node) tree.Node {
	l := make([]tree.Node, len(n.L), len(n.L)+2)
	for i, x := range n.L {
		l[i] = roomy(x)
	}
	for i := len(l); i < cap(l); i++ {
		l[:cap(l)][i] = mark()
	}
	n.L = l
	return n
}

func mark() tree.Node { return tree.Node{Kind: 6, N: 42, L: []tree.Node{{Kind: 43}}} }

// overwrite puts another set over a list and its spare capacity.
func overwrite(l []byteset.Set) {
	l = l[:cap(l)]
	for i := range l {
		l[i] = of("mark")
	}
}

// TestArgumentsRemain asks R4: what is given is neither changed, nor its spare
// capacity.
func TestArgumentsRemain(t *testing.T) {
	for _, n := range append(kinds(), rich()) {
		given := roomy(n)
		tree.Good(tree.Pattern{Root: given, Groups: groupsOf(given)})
		tree.Size(given)
		tree.Depth(given)
		overwrite(tree.Sets(given))
		tree.Same(given, given)
		tree.Same(given, rich())
		if !tree.Same(given, n) {
			t.Errorf("%s became %s", show(n), show(given))
		}
		walk(&given, func(x *tree.Node) {
			for i := len(x.L); i < cap(x.L); i++ {
				if !tree.Same(x.L[:cap(x.L)][i], mark()) {
					t.Errorf("%s: its spare capacity was changed", show(n))
				}
			}
		})
	}
}

// TestResultsAreNew asks R4 and R5: what is done with an answer is not to be
// seen in another one.
func TestResultsAreNew(t *testing.T) {
	for _, n := range append(kinds(), rich(), concat(sets(100)...)) {
		first := tree.Sets(n)
		want := slices.Clone(first)
		overwrite(tree.Sets(n))
		if !slices.Equal(first, want) {
			t.Errorf("Sets of %s: an answer shares memory with a later one", show(n))
		}
		if !slices.Equal(tree.Sets(n), want) {
			t.Errorf("Sets of %s: an answer shares memory with an earlier one", show(n))
		}
	}
}

// TestArbitraryNodes asks R1: each call ends, whatever it is given.
func TestArbitraryNodes(t *testing.T) {
	long := vine(most+1, true)
	for kind := -2; kind <= 9; kind++ {
		for _, x := range []int{0, 1, -1, 300, math.MaxInt, math.MinInt} {
			for _, l := range [][]tree.Node{nil, {{}}, {set("a"), {Kind: kind}}, {many(kind, 1000)}, {long}} {
				n := tree.Node{Kind: kind, Set: byteset.Set{uint64(x)}, Lo: x, Hi: x, N: x, L: l}
				tree.Good(tree.Pattern{Start: true, End: true, Root: n, Groups: x})
				tree.Size(n)
				tree.Depth(n)
				tree.Sets(n)
				if !tree.Same(n, n) {
					t.Errorf("%s isn't the same as itself", show(n))
				}
			}
		}
	}
}

func ExampleSize() {
	fmt.Println(tree.Size(concat(set("a"), set("b"))))
	// Output: 3
}

func ExampleGood() {
	root := concat(group(1, group(2, set("a"))), repeat(2, -1, group(3, set("b"))))
	fmt.Println(tree.Good(tree.Pattern{Root: root, Groups: 3}))
	fmt.Println(tree.Good(tree.Pattern{Root: root, Groups: 2}))
	// Output:
	// true
	// false
}
