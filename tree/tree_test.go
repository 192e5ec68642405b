package tree_test

import (
	"fmt"
	"math"
	"slices"
	"strings"
	"testing"

	"catchpole/api"
	"catchpole/byteset"
	"catchpole/tree"
)

// The functions and types with the signatures that the chapter lists: others
// would not build.
var (
	_ func(tree.Pattern) bool         = tree.Good
	_ func(tree.Node) int             = tree.Size
	_ func(tree.Node) int             = tree.Depth
	_ func(tree.Node) []byteset.Set   = tree.Sets
	_ func(tree.Node, tree.Node) bool = tree.Same
	_                                 = struct {
		Kind      int
		Set       byteset.Set
		Lo, Hi, N int
		L         []tree.Node
	}(tree.Node{})
	_ = struct {
		Start, End bool
		Root       tree.Node
		Groups     int
	}(tree.Pattern{})
)

func of(text string) byteset.Set { return byteset.Of([]byte(text)...) }

func set(text string) tree.Node { return tree.Node{Kind: 1, Set: of(text)} }

func concat(l ...tree.Node) tree.Node { return tree.Node{Kind: 2, L: l} }

func alternative(l ...tree.Node) tree.Node { return tree.Node{Kind: 3, L: l} }

func repeat(lo, hi int, l ...tree.Node) tree.Node { return tree.Node{Kind: 4, Lo: lo, Hi: hi, L: l} }

func group(number int, l ...tree.Node) tree.Node { return tree.Node{Kind: 5, N: number, L: l} }

func bracket(l ...tree.Node) tree.Node { return tree.Node{Kind: 6, L: l} }

// show is a text of a node, with all that is in it.
func show(n tree.Node) string {
	var within []string
	for _, x := range n.L {
		within = append(within, show(x))
	}
	text := fmt.Sprintf("%d:%v:%d:%d:%d[%s]", n.Kind, n.Set.Runs(), n.Lo, n.Hi, n.N, strings.Join(within, " "))
	return text[:min(len(text), 300)]
}

// wantGood asks that a root with that many groups is valid, or is not.
func wantGood(t *testing.T, want bool, root tree.Node, groups int) {
	t.Helper()
	if got := tree.Good(tree.Pattern{Root: root, Groups: groups}); got != want {
		t.Errorf("Good of %s with %d groups: %v", show(root), groups, got)
	}
}

// wantNumbered asks that n is valid, or is not, wherever it may stand in a
// pattern, with its groups numbered as they begin.
func wantNumbered(t *testing.T, want bool, n tree.Node) {
	t.Helper()
	for _, root := range []tree.Node{
		n,
		bracket(n),
		group(0, n),
		concat(set("a"), bracket(n)),
		concat(group(0, n), set("a")),
		repeat(0, 1, bracket(n)),
		alternative(set("a"), concat(set("b"), repeat(2, 3, group(0, bracket(n)))), set("c")),
	} {
		root = numbered(root)
		wantGood(t, want, root, groupsOf(root))
	}
}

// kinds has one valid node of each kind, with as few nodes as may be and with no
// number of a group but that of its root.
func kinds() []tree.Node {
	return []tree.Node{
		set("a"),
		concat(set("a"), set("b")),
		alternative(set("a"), set("b")),
		repeat(2, 3, set("a")),
		group(1, set("a")),
		bracket(set("a")),
	}
}

// groupsOf is the number of the groups in n.
func groupsOf(n tree.Node) int {
	groups := 0
	walk(&n, func(x *tree.Node) {
		if x.Kind == 5 {
			groups++
		}
	})
	return groups
}

// walk does something with each node of n, an outer one before those within it.
func walk(n *tree.Node, do func(*tree.Node)) {
	do(n)
	for i := range n.L {
		walk(&n.L[i], do)
	}
}

// numbered is n with its groups numbered as they begin.
func numbered(n tree.Node) tree.Node {
	n = clone(n)
	groups := 0
	walk(&n, func(x *tree.Node) {
		if x.Kind == 5 {
			groups++
			x.N = groups
		}
	})
	return n
}

// clone is n with memory of its own.
func clone(n tree.Node) tree.Node {
	l := make([]tree.Node, len(n.L))
	for i, x := range n.L {
		l[i] = clone(x)
	}
	n.L = l
	return n
}

// nested is n within that many brackets.
func nested(times int, n tree.Node) tree.Node {
	for range times {
		n = bracket(n)
	}
	return n
}

// sets are that many sets, no two of them the same.
func sets(count int) []tree.Node {
	var l []tree.Node
	for i := range count {
		l = append(l, tree.Node{Kind: 1, Set: byteset.Set{uint64(i) + 1}})
	}
	return l
}

func TestEachKind(t *testing.T) {
	for _, n := range kinds() {
		wantGood(t, true, n, groupsOf(n))
	}
	wantGood(t, false, tree.Node{}, 0)
	for b := range 256 {
		wantNumbered(t, true, tree.Node{Kind: 1, Set: byteset.Of(byte(b))})
	}
	wantNumbered(t, true, tree.Node{Kind: 1, Set: byteset.All()})
	wantNumbered(t, true, set("abc"))
}

func TestEmptySet(t *testing.T) {
	empty := tree.Node{Kind: 1}
	wantNumbered(t, false, empty)
	wantNumbered(t, false, tree.Node{Kind: 1, L: []tree.Node{}})
	wantNumbered(t, false, concat(empty, set("a")))
	wantNumbered(t, false, concat(set("a"), set("b"), empty))
	wantNumbered(t, false, alternative(set("a"), empty))
	wantNumbered(t, false, repeat(0, -1, empty))
}

// TestOtherFields asks that the fields that are not of a node's kind are zero.
func TestOtherFields(t *testing.T) {
	// A field is put into a node of each kind but its own.
	for _, f := range []struct {
		own int
		put func(n *tree.Node, x int)
	}{
		{1, func(n *tree.Node, x int) { n.Set[x&3] = 1 << (x & 63) }},
		{4, func(n *tree.Node, x int) { n.Lo = x }},
		{4, func(n *tree.Node, x int) { n.Hi = x }},
		{4, func(n *tree.Node, x int) { n.Lo, n.Hi = x, x }},
		{5, func(n *tree.Node, x int) { n.N = x }},
	} {
		for _, n := range kinds() {
			if n.Kind == f.own {
				continue
			}
			for _, x := range []int{1, 2, 3, 255, 256, -1, math.MaxInt, math.MinInt} {
				wrong := n
				f.put(&wrong, x)
				wantNumbered(t, false, wrong)
			}
		}
	}
	for _, n := range kinds() {
		wantNumbered(t, true, n)
		beside := set("a")
		beside.L = []tree.Node{n}
		wantNumbered(t, false, beside)
	}
	wantGood(t, true, tree.Node{Kind: 1, Set: of("a"), L: []tree.Node{}}, 0)
}

func TestNoKind(t *testing.T) {
	lists := [][]tree.Node{nil, {set("a")}, {set("a"), set("b")}}
	for _, kind := range []int{0, 7, 8, 9, 64, 256, -1, -2, -6, math.MaxInt, math.MinInt} {
		for _, l := range lists {
			for _, n := range []tree.Node{
				{Kind: kind, L: l},
				{Kind: kind, Set: of("a"), L: l},
				{Kind: kind, Lo: 2, Hi: 3, L: l},
				{Kind: kind, N: 1, L: l},
			} {
				wantNumbered(t, false, n)
				wantGood(t, false, concat(n, set("a")), 0)
				wantGood(t, false, concat(set("a"), n), 0)
				wantGood(t, false, alternative(n, set("a")), 0)
				wantGood(t, false, alternative(set("a"), n), 0)
				wantGood(t, false, repeat(0, 1, n), 0)
			}
		}
	}
}

// TestNumberOfNodes asks how many nodes a node of each kind has.
func TestNumberOfNodes(t *testing.T) {
	for count := range 6 {
		l := sets(count)
		wantNumbered(t, count >= 2, concat(l...))
		wantNumbered(t, count >= 2, alternative(l...))
		wantNumbered(t, count == 1, repeat(0, 1, l...))
		wantNumbered(t, count == 1, bracket(l...))
		wantGood(t, count == 1, group(1, l...), 1)
		wantGood(t, count == 1, bracket(group(1, l...)), 1)
		wantGood(t, count == 1, concat(group(1, l...), set("a")), 1)
		if count == 0 {
			for kind := 2; kind <= 6; kind++ {
				n := tree.Node{Kind: kind, L: []tree.Node{}}
				wantGood(t, false, numbered(n), groupsOf(n))
			}
		}
	}
}

// TestKindsWithin asks for each kind within each one.
func TestKindsWithin(t *testing.T) {
	// For each kind of node, the kinds that it may have.
	may := map[int][]int{
		2: {1, 4, 5, 6},
		3: {1, 2, 4, 5, 6},
		4: {1, 5, 6},
		5: {1, 2, 3, 4, 5, 6},
		6: {1, 2, 3, 4, 5, 6},
	}
	for _, x := range kinds() {
		for kind, within := range may {
			want := slices.Contains(within, x.Kind)
			for _, l := range [][]tree.Node{
				{x}, {x, set("b")}, {set("b"), x}, {x, x}, {set("b"), x, set("c")}, {set("b"), set("c"), x},
			} {
				if kind <= 3 && len(l) < 2 || kind > 3 && len(l) > 1 {
					continue
				}
				n := numbered(tree.Node{Kind: kind, L: l})
				wantGood(t, want, n, groupsOf(n))
				n = numbered(bracket(alternative(bracket(n), set("d"))))
				wantGood(t, want, n, groupsOf(n))
			}
		}
	}
}

func TestStartAndEnd(t *testing.T) {
	for _, start := range []bool{false, true} {
		for _, end := range []bool{false, true} {
			p := tree.Pattern{Start: start, End: end, Root: concat(set("a"), group(1, set("b"))), Groups: 1}
			if !tree.Good(p) {
				t.Errorf("Good with Start %v and End %v: false", start, end)
			}
			p.Groups = 2
			if tree.Good(p) {
				t.Errorf("Good of a wrong number with Start %v and End %v: true", start, end)
			}
			if tree.Good(tree.Pattern{Start: start, End: end}) {
				t.Errorf("Good of no node with Start %v and End %v: true", start, end)
			}
		}
	}
}

func TestBounds(t *testing.T) {
	ends := []int{math.MinInt, math.MinInt + 1, math.MaxInt - 1, math.MaxInt, 1 << 32, 1<<32 + 1, -1 << 32, -256, -255, 65536}
	for i := -3; i <= api.MaxCount+3; i++ {
		ends = append(ends, i)
	}
	for _, lo := range ends {
		for _, hi := range ends {
			lowers, uppers := 0 <= lo && lo <= api.MaxCount, hi == -1 || lo <= hi && hi <= api.MaxCount
			wantGood(t, lowers && uppers, repeat(lo, hi, set("a")), 0)
		}
	}
	for _, c := range []struct {
		lo, hi int
		want   bool
	}{
		{0, 0, true}, {0, -1, true}, {0, 1, true}, {1, -1, true}, {1, 1, true}, {2, 3, true}, {3, 2, false}, {1, 0, false},
		{0, api.MaxCount, true}, {api.MaxCount, api.MaxCount, true}, {api.MaxCount, -1, true},
		{0, api.MaxCount + 1, false}, {api.MaxCount + 1, -1, false}, {api.MaxCount + 1, api.MaxCount + 1, false},
		{api.MaxCount, api.MaxCount - 1, false}, {-1, -1, false}, {-1, 0, false}, {-1, 5, false}, {-2, -2, false},
		{0, -2, false}, {5, -2, false},
	} {
		wantNumbered(t, c.want, repeat(c.lo, c.hi, set("a")))
		wantNumbered(t, c.want, concat(set("a"), repeat(c.lo, c.hi, bracket(set("b")))))
		wantGood(t, c.want, repeat(c.lo, c.hi, group(1, set("b"))), 1)
	}
}

// TestNumbers gives the groups of some shapes all numbers: one way alone is
// good.
func TestNumbers(t *testing.T) {
	a := set("a")
	for _, shape := range []tree.Node{
		group(0, a),
		concat(group(0, a), group(0, a)),
		group(0, group(0, a)),
		alternative(group(0, a), group(0, a), group(0, a)),
		group(0, concat(group(0, a), a, group(0, a))),
		concat(a, group(0, group(0, a)), group(0, a)),
		concat(group(0, a), group(0, group(0, a))),
		group(0, repeat(0, -1, group(0, bracket(group(0, a))))),
		alternative(concat(a, group(0, alternative(a, group(0, a)))), repeat(1, 2, group(0, repeat(2, 2, group(0, a))))),
		concat(repeat(0, 1, group(0, a)), bracket(alternative(group(0, group(0, a)), a)), group(0, a)),
	} {
		count := groupsOf(shape)
		numbers := make([]int, count)
		for more := true; more; more = next(numbers, count+2) {
			n, i, want := clone(shape), 0, true
			walk(&n, func(x *tree.Node) {
				if x.Kind == 5 {
					x.N = numbers[i]
					i++
					want = want && x.N == i
				}
			})
			for groups := -1; groups <= count+1; groups++ {
				wantGood(t, want && groups == count, n, groups)
			}
		}
	}
}

// next counts numbers on, each of them from 0 to below most, and is false after
// the last of them.
func next(numbers []int, most int) bool {
	for i := range numbers {
		if numbers[i]++; numbers[i] < most {
			return true
		}
		numbers[i] = 0
	}
	return false
}

func TestNumbersByHand(t *testing.T) {
	a := set("a")
	wantGood(t, true, concat(group(1, group(2, a)), group(3, a)), 3)
	wantGood(t, false, concat(group(2, group(1, a)), group(3, a)), 3)
	wantGood(t, false, concat(group(1, group(3, a)), group(2, a)), 3)
	wantGood(t, false, concat(group(1, a), group(3, a)), 2)
	wantGood(t, false, concat(group(1, a), group(3, a)), 3)
	wantGood(t, false, concat(group(2, a), group(3, a)), 2)
	wantGood(t, false, concat(group(1, a), group(1, a)), 1)
	wantGood(t, false, concat(group(1, a), group(1, a)), 2)
	wantGood(t, false, concat(group(2, a), group(1, a)), 2)
	wantGood(t, false, concat(group(0, a), group(1, a)), 2)
	wantGood(t, false, group(-1, a), 1)
	wantGood(t, false, group(0, a), 0)
	for _, groups := range []int{1, 2, -1, 32, math.MaxInt, math.MinInt} {
		wantGood(t, false, a, groups)
	}
	for _, groups := range []int{0, 2, -1, 33, math.MaxInt, math.MinInt, 1 + 1<<32} {
		wantGood(t, false, group(1, a), groups)
	}
}

func TestMaxGroups(t *testing.T) {
	for count := 2; count <= api.MaxGroups+3; count++ {
		l := make([]tree.Node, count)
		inner := set("a")
		for i := range l {
			l[i] = group(i+1, set("a"))
			inner = group(count-i, inner)
		}
		want := count <= api.MaxGroups
		for _, n := range []tree.Node{concat(l...), alternative(l...), inner, repeat(0, -1, inner)} {
			wantGood(t, want, n, count)
			wantGood(t, false, n, count-1)
			wantGood(t, false, n, count+1)
			wantGood(t, false, n, api.MaxGroups+1)
			wantGood(t, want && count == api.MaxGroups, n, api.MaxGroups)
		}
	}
}

// The models tell by what may stand where whether n is as described. They ask
// for nothing of its numbers, its bounds and its sets.

func modelAtom(n tree.Node) bool {
	return n.Kind == 1 || (n.Kind == 5 || n.Kind == 6) && len(n.L) == 1 && modelAny(n.L[0])
}

func modelPiece(n tree.Node) bool {
	return modelAtom(n) || n.Kind == 4 && len(n.L) == 1 && modelAtom(n.L[0])
}

func modelConcat(n tree.Node) bool {
	if n.Kind != 2 {
		return modelPiece(n)
	}
	return len(n.L) > 1 && !slices.ContainsFunc(n.L, func(x tree.Node) bool { return !modelPiece(x) })
}

func modelAny(n tree.Node) bool {
	if n.Kind != 3 {
		return modelConcat(n)
	}
	return len(n.L) > 1 && !slices.ContainsFunc(n.L, func(x tree.Node) bool { return !modelConcat(x) })
}

// trees are all nodes of that size, of the kinds 1 to 6, sets without nodes.
func trees(size int) []tree.Node {
	if size == 1 {
		return []tree.Node{set("a"), concat(), alternative(), repeat(1, 2), group(1), bracket()}
	}
	var all []tree.Node
	for _, l := range forests(size - 1) {
		all = append(all, concat(l...), alternative(l...), repeat(1, 2, l...), group(1, l...), bracket(l...))
	}
	return all
}

// forests are all lists of nodes with that many nodes in all.
func forests(size int) [][]tree.Node {
	if size == 0 {
		return [][]tree.Node{nil}
	}
	var all [][]tree.Node
	for first := 1; first <= size; first++ {
		rest := forests(size - first)
		for _, n := range trees(first) {
			for _, l := range rest {
				all = append(all, append([]tree.Node{n}, l...))
			}
		}
	}
	return all
}

func TestAllSmallTrees(t *testing.T) {
	good := 0
	for size := 1; size <= 5; size++ {
		for _, n := range trees(size) {
			if tree.Size(n) != size {
				t.Errorf("Size of %s: %d, want %d", show(n), tree.Size(n), size)
			}
			n = numbered(n)
			want := modelAny(n)
			if want {
				good++
			}
			wantGood(t, want, n, groupsOf(n))
		}
	}
	// The model isn't one that refuses, or takes, all of them.
	if good < 100 {
		t.Errorf("%d trees are good", good)
	}
}
