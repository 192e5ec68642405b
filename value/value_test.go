package value_test

import (
	"fmt"
	"math"
	"slices"
	"strings"
	"testing"

	"catchpole/api"
	"catchpole/byteset"
	"catchpole/core"
	"catchpole/value"
)

// The functions and the type with the signatures that the chapter lists: others
// would not build.
var (
	_ func(core.Core, value.Value) bool   = value.Good
	_ func(core.Core, value.Value) bool   = value.Full
	_ func(value.Value) []byte            = value.Flat
	_ func(value.Value) int               = value.Len
	_ func(value.Value, value.Value) bool = value.Same
	_ func(value.Value) string            = value.Text
	_ func(value.Value) int               = value.Size
	_                                     = struct {
		Kind int
		B    byte
		L    []value.Value
	}(value.Value{})
)

// The cores begin with core, and the values do not.

func coreNothing() core.Core { return core.Core{} }

func coreEmpty() core.Core { return core.Core{Kind: 1} }

func coreSet(text string) core.Core {
	return core.Core{Kind: 2, Set: byteset.Of([]byte(text)...)}
}

func coreConcat(l ...core.Core) core.Core { return core.Core{Kind: 3, L: l} }

func coreAlternative(l ...core.Core) core.Core { return core.Core{Kind: 4, L: l} }

func coreStar(l ...core.Core) core.Core { return core.Core{Kind: 5, L: l} }

func coreGroup(number int, l ...core.Core) core.Core { return core.Core{Kind: 6, N: number, L: l} }

func coreRenewal(l ...core.Core) core.Core { return core.Core{Kind: 7, L: l} }

func empty() value.Value { return value.Value{Kind: 1} }

func letter(b byte) value.Value { return value.Value{Kind: 2, B: b} }

func concat(l ...value.Value) value.Value { return value.Value{Kind: 3, L: l} }

func left(l ...value.Value) value.Value { return value.Value{Kind: 4, L: l} }

func right(l ...value.Value) value.Value { return value.Value{Kind: 5, L: l} }

func star(l ...value.Value) value.Value { return value.Value{Kind: 6, L: l} }

func group(l ...value.Value) value.Value { return value.Value{Kind: 7, L: l} }

// letters is the star of the letters of text.
func letters(text string) value.Value {
	v := star()
	for _, b := range []byte(text) {
		v.L = append(v.L, letter(b))
	}
	return v
}

// unknown are the kinds that no value has, or some of them.
func unknown() []int {
	return []int{0, -1, -2, -6, 8, 9, 10, 255, 256 + 1, 256 + 2, 256 + 6, 1<<32 + 2, 1<<32 + 6, math.MaxInt, math.MinInt}
}

// match is a core with a value of it.
type match struct {
	c core.Core
	v value.Value
}

// matches has each kind of core with each kind of value that belongs to it, in
// few parts.
func matches() []match {
	a, b := coreSet("a"), coreSet("b")
	return []match{
		{coreEmpty(), empty()},
		{a, letter('a')},
		{coreConcat(a, b), concat(letter('a'), letter('b'))},
		{coreAlternative(a, b), left(letter('a'))},
		{coreAlternative(a, b), right(letter('b'))},
		{coreStar(a), star()},
		{coreStar(a), letters("a")},
		{coreStar(a), letters("aaa")},
		{coreGroup(1, a), group(letter('a'))},
		{coreRenewal(a), letter('a')},
		{coreRenewal(coreRenewal(coreStar(a))), letters("aa")},
	}
}

// show is a text of a value, with all that is in it.
func show(v value.Value) string {
	var w strings.Builder
	write(&w, v)
	return w.String()[:min(w.Len(), 300)]
}

// write writes a text of v, or the beginning of a long one.
func write(w *strings.Builder, v value.Value) {
	if w.Len() > 300 {
		return
	}
	fmt.Fprintf(w, "%d:%d[", v.Kind, v.B)
	for _, x := range v.L {
		write(w, x)
	}
	w.WriteByte(']')
}

// equal reports whether two values are equal, without asking package value.
func equal(a, b value.Value) bool {
	return a.Kind == b.Kind && a.B == b.B && slices.EqualFunc(a.L, b.L, equal)
}

// walk does something with each part of v, an outer one before those within it.
func walk(v *value.Value, do func(*value.Value)) {
	do(v)
	for i := range v.L {
		walk(&v.L[i], do)
	}
}

// parts returns the number of parts of v, whether they count or not.
func parts(v value.Value) int {
	count := 0
	walk(&v, func(*value.Value) { count++ })
	return count
}

// partAt returns that part of v, by its place in the order of walk.
func partAt(v *value.Value, at int) *value.Value {
	var found *value.Value
	walk(v, func(x *value.Value) {
		if at == 0 {
			found = x
		}
		at--
	})
	return found
}

// clone is v with memory of its own.
func clone(v value.Value) value.Value {
	l := make([]value.Value, len(v.L))
	for i, x := range v.L {
		l[i] = clone(x)
	}
	v.L = l
	return v
}

// showCore is a text of a core, which need not be valid.
func showCore(c core.Core) string {
	if core.Good(c) {
		return core.Text(c)[:min(len(core.Text(c)), 300)]
	}
	return fmt.Sprintf("a wrong core of kind %d, of the number %d and with %d elements", c.Kind, c.N, len(c.L))
}

// wantGood asks whether v is a value of c, and whether it is a full one: alone,
// within others, and as what a star does twice.
func wantGood(t *testing.T, c core.Core, v value.Value, good, full bool) {
	t.Helper()
	for _, m := range around(match{c, v}) {
		wantMatch(t, m, good, full)
	}
	wantMatch(t, match{coreStar(c), star(v, v)}, good, full && bytesIn(v) > 0)
}

// wantMatch asks whether the value of m is one of its core, and whether it is a
// full one.
func wantMatch(t *testing.T, m match, good, full bool) {
	t.Helper()
	if got := value.Good(m.c, m.v); got != good {
		t.Errorf("Good of %s and %s: %v", showCore(m.c), show(m.v), got)
	}
	if got := value.Full(m.c, m.v); got != full {
		t.Errorf("Full of %s and %s: %v", showCore(m.c), show(m.v), got)
	}
}

// around has m, and what is good and full just if m is.
func around(m match) []match {
	x, y := coreSet("x"), letter('x')
	return []match{
		m,
		{coreConcat(m.c, x), concat(m.v, y)},
		{coreConcat(x, m.c), concat(y, m.v)},
		{coreAlternative(m.c, x), left(m.v)},
		{coreAlternative(x, m.c), right(m.v)},
		{coreAlternative(m.c, m.c), left(m.v)},
		{coreGroup(32, m.c), group(m.v)},
		{coreRenewal(m.c), m.v},
		{coreRenewal(coreGroup(1, coreAlternative(coreRenewal(m.c), coreEmpty()))), group(left(m.v))},
		{coreStar(coreConcat(x, m.c)), star(concat(y, m.v), concat(y, m.v))},
		{coreStar(coreConcat(coreStar(coreGroup(1, coreConcat(m.c, x))), x)), star(concat(star(group(concat(m.v, y))), y))},
	}
}

// bytesIn is the number of bytes of a value without faults.
func bytesIn(v value.Value) int {
	count := 0
	walk(&v, func(x *value.Value) {
		if x.Kind == 2 {
			count++
		}
	})
	return count
}

func TestGood(t *testing.T) {
	for _, m := range matches() {
		wantGood(t, m.c, m.v, true, true)
	}
}

// TestKinds asks each kind of core with each kind of value: those of other kinds
// do not belong to it, whatever elements they have.
func TestKinds(t *testing.T) {
	a, b := letter('a'), letter('b')
	coreA, coreB := coreSet("a"), coreSet("b")
	cores := []core.Core{
		coreNothing(), coreEmpty(), coreSet("ab"), coreConcat(coreA, coreA), coreAlternative(coreA, coreA),
		coreStar(coreA), coreGroup(1, coreA), coreConcat(coreEmpty(), coreB), coreStar(coreEmpty()),
	}
	belonging := [][]int{{}, {1}, {2}, {3}, {4, 5}, {6}, {7}, {3}, {6}}
	for i, c := range cores {
		for _, kind := range append(unknown(), 1, 2, 3, 4, 5, 6, 7) {
			seen := false
			for _, l := range [][]value.Value{nil, {}, {a}, {b}, {empty()}, {a, a}, {a, b}, {empty(), b}, {a, a, a}, {star()}, {group(a)}} {
				v := value.Value{Kind: kind, L: l}
				if kind == 2 {
					v.B = 'b'
				}
				seen = seen || value.Good(c, v)
				if !slices.Contains(belonging[i], kind) {
					wantGood(t, c, v, false, false)
				}
			}
			if seen != slices.Contains(belonging[i], kind) {
				t.Errorf("%s has a value of kind %d: %v", showCore(c), kind, seen)
			}
		}
	}
}

// TestElements asks of values that are no values but for their elements: too few
// of them, too many, or wrong ones.
func TestElements(t *testing.T) {
	a, b := letter('a'), letter('b')
	coreA, coreB := coreSet("a"), coreSet("b")
	for _, x := range []struct {
		c     core.Core
		right [][]value.Value // of the kind of core alone
		wrong [][]value.Value
		kind  int
	}{
		{coreEmpty(), [][]value.Value{nil, {}}, [][]value.Value{{empty()}, {a}, {{}}, {empty(), empty()}}, 1},
		{coreA, [][]value.Value{nil, {}}, [][]value.Value{{a}, {empty()}, {{}}, {a, a}}, 2},
		{coreConcat(coreA, coreB), [][]value.Value{{a, b}}, [][]value.Value{nil, {}, {a}, {b}, {a, a}, {b, b}, {b, a}, {a, b, a}, {a, b, empty()}, {a, b, {}}, {{}, a, b}, {a, {}}, {{}, b}, {concat(a, b)}, {concat(a, b), empty()}}, 3},
		{coreAlternative(coreA, coreB), [][]value.Value{{a}}, [][]value.Value{nil, {}, {b}, {a, b}, {a, a}, {a, empty()}, {a, {}}, {{}}, {{}, a}, {left(a)}}, 4},
		{coreAlternative(coreA, coreB), [][]value.Value{{b}}, [][]value.Value{nil, {}, {a}, {a, b}, {b, b}, {b, empty()}, {b, {}}, {{}}, {{}, b}, {right(b)}}, 5},
		{coreAlternative(coreA, coreA), [][]value.Value{{a}}, [][]value.Value{nil, {b}, {a, a}}, 4},
		{coreAlternative(coreA, coreA), [][]value.Value{{a}}, [][]value.Value{nil, {b}, {a, a}}, 5},
		{coreStar(coreA), [][]value.Value{nil, {}, {a}, {a, a}, {a, a, a}, slices.Repeat([]value.Value{a}, 100)}, [][]value.Value{{b}, {a, b}, {b, a}, {a, b, a}, {a, {}}, {{}, a}, {star(a)}, {a, empty()}, append(slices.Repeat([]value.Value{a}, 100), b)}, 6},
		{coreStar(coreNothing()), [][]value.Value{nil, {}}, [][]value.Value{{a}, {empty()}, {{}}, {star()}}, 6},
		{coreGroup(3, coreA), [][]value.Value{{a}}, [][]value.Value{nil, {}, {b}, {a, a}, {a, b}, {a, {}}, {{}}, {{}, a}, {group(a)}}, 7},
	} {
		for _, l := range x.right {
			v := value.Value{Kind: x.kind, L: l}
			if x.kind == 2 {
				v.B = 'a'
			}
			wantGood(t, x.c, v, true, true)
		}
		for _, l := range x.wrong {
			v := value.Value{Kind: x.kind, L: l}
			if x.kind == 2 {
				v.B = 'a'
			}
			wantGood(t, x.c, v, false, false)
		}
	}
}

// TestBytes asks that a byte is in Set, for each one.
func TestBytes(t *testing.T) {
	sets := []byteset.Set{{}, byteset.All(), byteset.Of('a'), byteset.Of(0), byteset.Of(255), byteset.Of('a').Not(), byteset.Range(63, 64), byteset.Range('a', 'z'), byteset.Of(0, 127, 128, 191, 192)}
	for _, s := range sets {
		c := core.Core{Kind: 2, Set: s}
		for b := range 256 {
			wantGood(t, c, letter(byte(b)), s.Has(byte(b)), s.Has(byte(b)))
		}
	}
}

// TestOtherByte asks that B is zero but for kind 2.
func TestOtherByte(t *testing.T) {
	for _, m := range matches() {
		if m.v.Kind == 2 {
			continue
		}
		for _, b := range []byte{1, 'a', 'b', 128, 255} {
			wrong := m.v
			wrong.B = b
			wantGood(t, m.c, wrong, false, false)
		}
	}
	wantGood(t, coreSet("a"), letter(0), false, false)
	// The zero in the fields of others is no byte.
	for _, c := range []core.Core{{Kind: 2, Set: byteset.Of(0)}, {Kind: 2, Set: byteset.All()}} {
		wantGood(t, c, letter(0), true, true)
		for _, v := range []value.Value{{}, empty(), star(), concat(letter(0), letter(0)), left(letter(0)), right(letter(0)), group(letter(0)), star(letter(0))} {
			wantGood(t, c, v, false, false)
		}
	}
}

// TestSides asks of both sides of an alternative.
func TestSides(t *testing.T) {
	ab := coreAlternative(coreSet("a"), coreConcat(coreSet("a"), coreSet("b")))
	a, both := letter('a'), concat(letter('a'), letter('b'))
	wantGood(t, ab, left(a), true, true)
	wantGood(t, ab, right(both), true, true)
	wantGood(t, ab, left(both), false, false)
	wantGood(t, ab, right(a), false, false)
	wantGood(t, ab, a, false, false)
	wantGood(t, ab, both, false, false)
	for _, other := range []core.Core{coreNothing(), coreSet(""), coreStar(coreSet("a"))} {
		wantGood(t, coreAlternative(coreSet("a"), other), left(a), true, true)
		wantGood(t, coreAlternative(coreSet("a"), other), right(a), false, false)
		wantGood(t, coreAlternative(other, coreSet("a")), right(a), true, true)
		wantGood(t, coreAlternative(other, coreSet("a")), left(a), false, false)
	}
	three := coreAlternative(coreSet("a"), coreAlternative(coreSet("b"), coreSet("c")))
	wantGood(t, three, right(left(letter('b'))), true, true)
	wantGood(t, three, right(right(letter('c'))), true, true)
	wantGood(t, three, left(right(letter('c'))), false, false)
	wantGood(t, three, right(letter('b')), false, false)
	wantGood(t, three, right(right(right(letter('c')))), false, false)
}

// TestRenewals asks that a renewal has the values of its element, however many
// of them there are.
func TestRenewals(t *testing.T) {
	for _, m := range matches() {
		c := m.c
		for range 20 {
			c = coreRenewal(c)
			wantGood(t, c, m.v, true, true)
			wantGood(t, c, group(m.v), false, false)
		}
	}
	twice := coreConcat(coreGroup(1, coreSet("a")), coreRenewal(coreGroup(1, coreSet("a"))))
	wantGood(t, twice, concat(group(letter('a')), group(letter('a'))), true, true)
	wantGood(t, twice, concat(group(letter('a')), letter('a')), false, false)
	wantGood(t, twice, concat(group(letter('a')), group(group(letter('a')))), false, false)
	wantGood(t, coreRenewal(coreNothing()), empty(), false, false)
	wantGood(t, coreRenewal(coreStar(coreRenewal(coreNothing()))), star(), true, true)
}

// TestNothing asks that a core of kind 0 has no values, and which ones others
// have that contain it.
func TestNothing(t *testing.T) {
	a, x := letter('a'), coreSet("a")
	for _, v := range []value.Value{{}, empty(), a, letter(0), concat(), concat(a, a), left(), left(a), right(), right(a), star(), star(a), group(), group(a)} {
		wantGood(t, coreNothing(), v, false, false)
		wantGood(t, coreRenewal(coreNothing()), v, false, false)
		wantGood(t, coreConcat(coreNothing(), x), concat(v, a), false, false)
		wantGood(t, coreConcat(x, coreNothing()), concat(a, v), false, false)
		wantGood(t, coreGroup(1, coreNothing()), group(v), false, false)
		wantGood(t, coreStar(coreNothing()), star(v), false, false)
		wantGood(t, coreAlternative(coreNothing(), x), left(v), false, false)
	}
	wantGood(t, coreAlternative(coreNothing(), x), right(a), true, true)
	wantGood(t, coreStar(coreNothing()), star(), true, true)
}

// deeply is a core with a value that has parts of all kinds.
func deeply() match {
	word := coreStar(coreAlternative(coreSet("ab"), coreGroup(2, coreConcat(coreSet("c"), coreAlternative(coreSet("d"), coreEmpty())))))
	return match{
		coreConcat(coreGroup(1, word), coreRenewal(coreAlternative(coreGroup(1, word), coreEmpty()))),
		concat(
			group(star(left(letter('a')), right(group(concat(letter('c'), left(letter('d'))))), left(letter('b')))),
			left(group(star(right(group(concat(letter('c'), right(empty())))), left(letter('b'))))),
		),
	}
}

// changes alter a value without a fault, so that it has one.
func changes() []func(v *value.Value) {
	return []func(v *value.Value){
		func(v *value.Value) { v.Kind++ },
		func(v *value.Value) { v.Kind-- },
		func(v *value.Value) { v.Kind = 0 },
		func(v *value.Value) { v.Kind = -v.Kind },
		func(v *value.Value) { v.Kind += 8 },
		func(v *value.Value) { v.Kind ^= 1 << 40 },
		func(v *value.Value) { v.B ^= 1 << 7 },
		func(v *value.Value) { v.L = append(slices.Clone(v.L), value.Value{}) },
		func(v *value.Value) { v.L = append([]value.Value{{}}, v.L...) },
		func(v *value.Value) { v.L = append(slices.Clone(v.L), letter('z')) },
		func(v *value.Value) { *v = value.Value{} },
		func(v *value.Value) { *v = left(*v) },
		func(v *value.Value) { *v = group(*v) },
	}
}

// TestFaultsWithin asks of values with one fault, at each place.
func TestFaultsWithin(t *testing.T) {
	m := deeply()
	wantGood(t, m.c, m.v, true, true)
	for at := range parts(m.v) {
		for i, change := range changes() {
			wrong := clone(m.v)
			change(partAt(&wrong, at))
			if value.Good(m.c, wrong) || value.Full(m.c, wrong) {
				t.Errorf("change %d of part %d: %s is a value of %s", i, at, show(wrong), showCore(m.c))
			}
		}
		if part := *partAt(&m.v, at); len(part.L) > 0 && part.Kind != 6 {
			wrong := clone(m.v)
			*partAt(&wrong, at) = value.Value{Kind: part.Kind, L: part.L[1:]}
			if value.Good(m.c, wrong) || value.Full(m.c, wrong) {
				t.Errorf("without an element in part %d: %s is a value of %s", at, show(wrong), showCore(m.c))
			}
		}
	}
}

// wrongCores are cores that are not valid.
func wrongCores() []core.Core {
	a := coreSet("a")
	large := a
	for range api.MaxCore {
		large = coreStar(large)
	}
	shared := a
	for range 200 {
		shared = coreConcat(shared, shared)
	}
	return []core.Core{
		{Kind: -1}, {Kind: 8}, {Kind: 9, L: []core.Core{a}}, {Kind: 256 + 2, Set: a.Set}, {Kind: math.MinInt},
		{Kind: 1, N: 1}, {Kind: 1, Set: a.Set}, {Kind: 1, L: []core.Core{a}},
		{Kind: 2, Set: a.Set, N: 1}, {Kind: 2, Set: a.Set, L: []core.Core{a}},
		coreConcat(), coreConcat(a), coreConcat(a, a, a), {Kind: 3, N: 1, L: []core.Core{a, a}}, {Kind: 3, Set: a.Set, L: []core.Core{a, a}},
		coreAlternative(), coreAlternative(a), coreAlternative(a, a, a), {Kind: 4, N: -1, L: []core.Core{a, a}},
		coreStar(), coreStar(a, a), {Kind: 5, N: 1, L: []core.Core{a}}, {Kind: 5, Set: a.Set, L: []core.Core{a}},
		coreGroup(1), coreGroup(1, a, a), coreGroup(0, a), coreGroup(-1, a), coreGroup(api.MaxGroups+1, a), {Kind: 6, N: 1, Set: a.Set, L: []core.Core{a}},
		coreRenewal(), coreRenewal(a, a), {Kind: 7, N: 1, L: []core.Core{a}}, {Kind: 7, Set: a.Set, L: []core.Core{a}},
		large, shared,
	}
}

// TestWrongCores asks that no value is one of a core that is not valid, also
// where it has nothing to do with what is wrong.
func TestWrongCores(t *testing.T) {
	a := letter('a')
	values := []value.Value{{}, empty(), a, concat(), concat(a), concat(a, a), concat(a, a, a), left(), left(a), right(), right(a), star(), star(a), star(a, a), group(), group(a), group(a, a)}
	for _, c := range wrongCores() {
		for _, v := range values {
			for _, m := range []match{
				{c, v},
				{coreConcat(coreSet("a"), c), concat(a, v)},
				{coreAlternative(coreSet("a"), c), left(a)},
				{coreAlternative(c, coreSet("a")), right(a)},
				{coreStar(c), star()},
				{coreStar(coreAlternative(coreSet("a"), coreRenewal(coreGroup(1, c)))), star(left(a), left(a))},
				{coreRenewal(c), v},
				{coreGroup(1, c), group(v)},
			} {
				if value.Good(m.c, m.v) {
					t.Errorf("Good of a core that isn't valid, %s, and %s", showCore(m.c), show(m.v))
				}
				if value.Full(m.c, m.v) {
					t.Errorf("Full of a core that isn't valid, %s, and %s", showCore(m.c), show(m.v))
				}
			}
		}
	}
}
