package block_test

import (
	"bytes"
	"fmt"
	"slices"
	"testing"

	"catchpole/block"
	"catchpole/byteset"
)

// The functions with the signatures that the chapter lists: another one would
// not build.
var (
	_ func(...byteset.Set) []byteset.Set    = block.Of
	_ func([]byteset.Set) []byte            = block.Heads
	_ func([]byteset.Set, byte) (int, bool) = block.Find
	_ func([]byteset.Set, []byte) []byte    = block.Map
)

func of(text string) byteset.Set { return byteset.Of([]byte(text)...) }

// allBytes is a text of all 256 bytes, in their order.
func allBytes() []byte {
	s := make([]byte, 256)
	for b := range s {
		s[b] = byte(b)
	}
	return s
}

// singles is the list of the 256 sets of one byte, in the order of their bytes.
func singles() []byteset.Set {
	var l []byteset.Set
	for b := range 256 {
		l = append(l, byteset.Of(byte(b)))
	}
	return l
}

// bitSets has for each bit the set of the bytes in which it is 1: together they
// tell all bytes apart.
func bitSets() []byteset.Set {
	l := make([]byteset.Set, 8)
	for b := range 256 {
		for i := range l {
			if b>>i&1 == 1 {
				l[i] = l[i].Or(byteset.Of(byte(b)))
			}
		}
	}
	return l
}

// mixed has n sets of no order, thin and thick.
func mixed(n int, seed uint32) []byteset.Set {
	l := make([]byteset.Set, n)
	for i := range l {
		for b := range 256 {
			seed = seed*1664525 + 1013904223
			if seed>>16%uint32(n+1) <= uint32(i) {
				l[i] = l[i].Or(byteset.Of(byte(b)))
			}
		}
	}
	return l
}

type list struct {
	name string
	sets []byteset.Set
}

// lists are ordinary lists, the edges that a list can have, and lists of no
// order.
func lists() []list {
	some := []byteset.Set{byteset.Range('a', 'm'), byteset.Range('h', 'z'), of("aeiou"), byteset.Range(100, 200)}
	backward := slices.Clone(some)
	slices.Reverse(backward)
	down := singles()
	slices.Reverse(down)
	l := []list{
		{"nil", nil},
		{"no set", []byteset.Set{}},
		{"the empty set", []byteset.Set{{}}},
		{"all bytes", []byteset.Set{byteset.All()}},
		{"the empty set and all bytes", []byteset.Set{{}, byteset.All()}},
		{"all bytes and the empty set", []byteset.Set{byteset.All(), {}}},
		{"a", []byteset.Set{of("a")}},
		{"byte 0", []byteset.Set{byteset.Of(0)}},
		{"byte 255", []byteset.Set{byteset.Of(255)}},
		{"all but byte 0", []byteset.Set{byteset.Of(0).Not()}},
		{"twice", []byteset.Set{of("abc"), of("abc")}},
		{"a set and its complement", []byteset.Set{of("abc"), of("abc").Not()}},
		{"one within another", []byteset.Set{byteset.Range('a', 'z'), byteset.Range('f', 'k')}},
		{"apart", []byteset.Set{of("xyz"), of("abc")}},
		{"overlapping", some},
		{"overlapping, backward", backward},
		{"with empty sets between", []byteset.Set{{}, of("ab"), {}, {}, of("bc"), {}}},
		{"singles", singles()},
		{"singles, backward", down},
		{"bits", bitSets()},
		{"edges of words", []byteset.Set{byteset.Range(0, 63), byteset.Range(63, 64), byteset.Range(64, 127), byteset.Range(127, 191), byteset.Range(192, 254)}},
	}
	for n := range 7 {
		l = append(l, list{fmt.Sprint("mixed ", n), mixed(n, uint32(n)+1)})
	}
	return l
}

// told reports whether a set of l contains one of the bytes and not the other.
func told(l []byteset.Set, b, c byte) bool {
	return slices.ContainsFunc(l, func(s byteset.Set) bool { return s.Has(b) != s.Has(c) })
}

// modelOf makes the parts byte by byte: each joins the first part whose bytes it
// is not told apart from.
func modelOf(l []byteset.Set) []byteset.Set {
	var parts [][]byte
	for _, b := range allBytes() {
		i := slices.IndexFunc(parts, func(p []byte) bool { return !told(l, p[0], b) })
		if i < 0 {
			parts = append(parts, []byte{b})
		} else {
			parts[i] = append(parts[i], b)
		}
	}
	var sets []byteset.Set
	for _, p := range parts {
		sets = append(sets, byteset.Of(p...))
	}
	return sets
}

func TestOf(t *testing.T) {
	for _, c := range []struct {
		name string
		l    []byteset.Set
		want string
	}{
		{"no set", nil, "[{0 255}]"},
		{"the empty set", []byteset.Set{{}}, "[{0 255}]"},
		{"all bytes", []byteset.Set{byteset.All()}, "[{0 255}]"},
		{"the empty set and all bytes", []byteset.Set{{}, byteset.All()}, "[{0 255}]"},
		{"one byte", []byteset.Set{of("a")}, "[{0 96} {98 255}] [{97 97}]"},
		{"byte 0", []byteset.Set{byteset.Of(0)}, "[{0 0}] [{1 255}]"},
		{"byte 255", []byteset.Set{byteset.Of(255)}, "[{0 254}] [{255 255}]"},
		{"all but byte 0", []byteset.Set{byteset.Of(0).Not()}, "[{0 0}] [{1 255}]"},
		{"two bytes in one set", []byteset.Set{of("ac")}, "[{0 96} {98 98} {100 255}] [{97 97} {99 99}]"},
		{"two bytes in two sets", []byteset.Set{of("c"), of("a")}, "[{0 96} {98 98} {100 255}] [{97 97}] [{99 99}]"},
		{"the same set twice", []byteset.Set{of("ab"), of("ab")}, "[{0 96} {99 255}] [{97 98}]"},
		{"a set and its complement", []byteset.Set{of("ab").Not(), of("ab")}, "[{0 96} {99 255}] [{97 98}]"},
		{"two that overlap", []byteset.Set{byteset.Range(20, 29), byteset.Range(10, 24)}, "[{0 9} {30 255}] [{10 19}] [{20 24}] [{25 29}]"},
		{"one within another", []byteset.Set{byteset.Range(10, 29), byteset.Range(15, 19)}, "[{0 9} {30 255}] [{10 14} {20 29}] [{15 19}]"},
		{"three that overlap", []byteset.Set{of("abcd"), of("cdef"), of("bde")}, "[{0 96} {103 255}] [{97 97}] [{98 98}] [{99 99}] [{100 100}] [{101 101}] [{102 102}]"},
		{"three that leave no byte out", []byteset.Set{byteset.Range(128, 255), byteset.Range(0, 127), byteset.Range(64, 191)}, "[{0 63}] [{64 127}] [{128 191}] [{192 255}]"},
	} {
		var got []string
		for _, p := range block.Of(c.l...) {
			got = append(got, fmt.Sprint(p.Runs()))
		}
		if text := fmt.Sprint(got); text != "["+c.want+"]" {
			t.Errorf("Of, %s: %s, want [%s]", c.name, text, c.want)
		}
	}
}

func TestOfNoSet(t *testing.T) {
	if got := block.Of(); len(got) != 1 || got[0] != byteset.All() {
		t.Errorf("Of() = %v, want one part of all bytes", got)
	}
}

// TestOfSingles has every byte as a part of its own, at the place of its number,
// whatever the order of the sets.
func TestOfSingles(t *testing.T) {
	down := singles()
	slices.Reverse(down)
	for i, l := range [][]byteset.Set{singles(), down, bitSets(), append(singles(), singles()...), singles()[1:]} {
		if got := block.Of(l...); !slices.Equal(got, singles()) {
			t.Errorf("Of, list %d: %d parts, want 256 of one byte each", i, len(got))
		}
	}
	got := block.Of(singles()[2:]...)
	if want := append([]byteset.Set{byteset.Of(0, 1)}, singles()[2:]...); !slices.Equal(got, want) {
		t.Errorf("Of of all singles but two: %d parts, want 255", len(got))
	}
}

func TestOfIsPartition(t *testing.T) {
	for _, l := range lists() {
		var seen byteset.Set
		for i, p := range block.Of(l.sets...) {
			if p.Len() == 0 {
				t.Errorf("Of, %s: part %d is empty", l.name, i)
			}
			if both := seen.And(p); both.Len() != 0 {
				t.Errorf("Of, %s: part %d has %v of an earlier part", l.name, i, both.List())
			}
			seen = seen.Or(p)
		}
		if seen != byteset.All() {
			t.Errorf("Of, %s: no part has %v", l.name, seen.Not().List())
		}
	}
}

func TestOfAscends(t *testing.T) {
	for _, l := range lists() {
		parts := block.Of(l.sets...)
		for i := 1; i < len(parts); i++ {
			a, _ := parts[i-1].Least()
			b, _ := parts[i].Least()
			if a >= b {
				t.Errorf("Of, %s: the least byte of part %d is %d, that of part %d is %d", l.name, i-1, a, i, b)
			}
		}
	}
}

// TestOfTellsApart asks that two bytes are in one part exactly when no set tells
// them apart: so no set divides a part, and no two parts could be one.
func TestOfTellsApart(t *testing.T) {
	for _, l := range lists() {
		parts := block.Of(l.sets...)
		for _, b := range allBytes() {
			i := slices.IndexFunc(parts, func(p byteset.Set) bool { return p.Has(b) })
			if i < 0 {
				t.Fatalf("Of, %s: no part has %d", l.name, b)
			}
			for _, c := range allBytes() {
				if got := parts[i].Has(c); got == told(l.sets, b, c) {
					t.Fatalf("Of, %s: %d and %d in one part: %v", l.name, b, c, got)
				}
			}
		}
	}
}

func TestOfModel(t *testing.T) {
	for _, l := range lists() {
		if got, want := block.Of(l.sets...), modelOf(l.sets); !slices.Equal(got, want) {
			t.Errorf("Of, %s: %d parts, want %d: %v, want %v", l.name, len(got), len(want), got, want)
		}
	}
}

// TestOfOwnResult has a partition for the list: its parts are the answer again.
func TestOfOwnResult(t *testing.T) {
	for _, l := range lists() {
		parts := block.Of(l.sets...)
		if got := block.Of(parts...); !slices.Equal(got, parts) {
			t.Errorf("Of of Of, %s: %v, want %v", l.name, got, parts)
		}
	}
}

func TestHeads(t *testing.T) {
	for _, c := range []struct {
		name string
		l    []byteset.Set
		want []byte
	}{
		{"nil", nil, nil},
		{"no set", []byteset.Set{}, nil},
		{"the empty set", []byteset.Set{{}}, nil},
		{"empty sets alone", []byteset.Set{{}, {}, {}}, nil},
		{"all bytes", []byteset.Set{byteset.All()}, []byte{0}},
		{"byte 0", []byteset.Set{byteset.Of(0)}, []byte{0}},
		{"byte 255", []byteset.Set{byteset.Of(255)}, []byte{255}},
		{"empty sets between", []byteset.Set{{}, of("za"), {}, {}, of("cb"), {}}, []byte("ab")},
		{"an empty set ahead of byte 0", []byteset.Set{{}, byteset.Of(0, 7), {}}, []byte{0}},
		{"in the order of the list", []byteset.Set{of("xyz"), of("abc"), of("mn")}, []byte("xam")},
		{"the same head twice", []byteset.Set{of("ab"), of("ab"), of("ac")}, []byte("aaa")},
		{"edges of words", []byteset.Set{byteset.Of(63, 64), byteset.Of(64), byteset.Of(127, 255), byteset.Of(128, 129), byteset.Of(191, 192), byteset.Of(192, 255)}, []byte{63, 64, 127, 128, 191, 192}},
		{"singles", singles(), allBytes()},
	} {
		if got := block.Heads(c.l); !bytes.Equal(got, c.want) {
			t.Errorf("Heads, %s: %v, want %v", c.name, got, c.want)
		}
	}
}

func TestHeadsOfParts(t *testing.T) {
	for _, c := range []struct {
		l    []byteset.Set
		want []byte
	}{
		{nil, []byte{0}},
		{[]byteset.Set{of("a")}, []byte("\x00a")},
		{[]byteset.Set{byteset.Range('c', 'z'), byteset.Range('a', 'm')}, []byte("\x00acn")},
		{[]byteset.Set{byteset.Of(0)}, []byte{0, 1}},
		{singles(), allBytes()},
	} {
		if got := block.Heads(block.Of(c.l...)); !bytes.Equal(got, c.want) {
			t.Errorf("Heads of Of(%v) = %v, want %v", c.l, got, c.want)
		}
	}
	for _, l := range lists() {
		var want []byte
		for _, p := range modelOf(l.sets) {
			want = append(want, p.List()[0])
		}
		if got := block.Heads(block.Of(l.sets...)); !bytes.Equal(got, want) {
			t.Errorf("Heads of Of, %s: %v, want %v", l.name, got, want)
		}
	}
}

func TestFind(t *testing.T) {
	l := []byteset.Set{{}, of("abc"), of("cd"), {}, of("cde\xff"), of("abc"), byteset.Of(0)}
	for _, c := range []struct {
		name string
		l    []byteset.Set
		b    byte
		want int
		ok   bool
	}{
		{"in two equal sets", l, 'a', 1, true},
		{"in four sets", l, 'c', 1, true},
		{"in two sets", l, 'd', 2, true},
		{"in one set", l, 'e', 4, true},
		{"byte 0, in the last set", l, 0, 6, true},
		{"byte 255", l, 255, 4, true},
		{"in none", l, 'f', 0, false},
		{"in none, 1", l, 1, 0, false},
		{"in none, 254", l, 254, 0, false},
		{"in the first set", l[1:], 'b', 0, true},
		{"byte 0 in the empty set", []byteset.Set{{}}, 0, 0, false},
		{"nil", nil, 'a', 0, false},
		{"nil, byte 0", nil, 0, 0, false},
		{"no set", []byteset.Set{}, 'a', 0, false},
	} {
		if got, ok := block.Find(c.l, c.b); got != c.want || ok != c.ok {
			t.Errorf("Find, %s: %d, %v, want %d, %v", c.name, got, ok, c.want, c.ok)
		}
	}
}

// modelFind goes through the list from its end, so that the first set is the
// last to be seen.
func modelFind(l []byteset.Set, b byte) (int, bool) {
	at, ok := 0, false
	for i := len(l) - 1; i >= 0; i-- {
		if l[i].Has(b) {
			at, ok = i, true
		}
	}
	return at, ok
}

func TestFindModel(t *testing.T) {
	for _, l := range lists() {
		for _, b := range allBytes() {
			want, wantOK := modelFind(l.sets, b)
			if got, ok := block.Find(l.sets, b); got != want || ok != wantOK {
				t.Errorf("Find, %s: byte %d: %d, %v, want %d, %v", l.name, b, got, ok, want, wantOK)
			}
		}
	}
}

func TestMap(t *testing.T) {
	l := []byteset.Set{{}, of("cba"), of("cdx"), {}, of("yx")}
	for _, c := range []struct {
		name string
		l    []byteset.Set
		s    string
		want string
	}{
		{"empty", l, "", ""},
		{"one byte", l, "b", "a"},
		{"a byte of two sets", l, "cx", "ac"},
		{"a head remains", l, "ac", "aa"},
		{"the head of the last set lies in an earlier one", l, "yxy", "xcx"},
		{"every byte", l, "abcabcdyx", "aaaaaacxc"},
		{"bytes of no set", l, "efg \x00\xff", "efg \x00\xff"},
		{"bytes of a set and of none", l, "b-d\x00y\xffc", "a-c\x00x\xffa"},
		{"nil list", nil, "abc\x00\xff", "abc\x00\xff"},
		{"no set", []byteset.Set{}, "abc\x00\xff", "abc\x00\xff"},
		{"the empty set", []byteset.Set{{}}, "abc\x00\xff", "abc\x00\xff"},
		{"all bytes", []byteset.Set{byteset.All()}, "abc\x00\xff", "\x00\x00\x00\x00\x00"},
		{"empty, no set", nil, "", ""},
		{"parts", block.Of(byteset.Range('a', 'f'), byteset.Range('d', 'z')), "fedcbaz{\xff", "dddaaag\x00\x00"},
	} {
		if got := block.Map(c.l, []byte(c.s)); string(got) != c.want {
			t.Errorf("Map, %s: %q, want %q", c.name, got, c.want)
		}
	}
	if got := block.Map(l, nil); len(got) != 0 {
		t.Errorf("Map of nil: %q", got)
	}
}

func modelMap(l []byteset.Set, s []byte) []byte {
	var m []byte
	for _, b := range s {
		if i, ok := modelFind(l, b); ok {
			b = l[i].List()[0]
		}
		m = append(m, b)
	}
	return m
}

func TestMapOfAllBytes(t *testing.T) {
	down := allBytes()
	slices.Reverse(down)
	for _, l := range lists() {
		for _, s := range [][]byte{allBytes(), down, append(allBytes(), down...)} {
			if got, want := block.Map(l.sets, s), modelMap(l.sets, s); !bytes.Equal(got, want) {
				t.Errorf("Map, %s: %v, want %v", l.name, got, want)
			}
		}
	}
}

// TestMapByParts asks that no set of the list tells a text and its Map apart,
// and that all bytes of the Map are heads.
func TestMapByParts(t *testing.T) {
	for _, l := range lists() {
		parts := block.Of(l.sets...)
		heads := block.Heads(parts)
		for b, c := range block.Map(parts, allBytes()) {
			if told(l.sets, byte(b), c) || !slices.Contains(heads, c) {
				t.Errorf("Map by Of, %s: %d becomes %d", l.name, b, c)
			}
		}
	}
}

// mark stands in spare capacity, where it is to remain.
func mark() byteset.Set { return byteset.Of(42, 43) }

// TestArgumentsRemain asks R4: what is given is neither changed, nor its spare
// capacity.
func TestArgumentsRemain(t *testing.T) {
	for _, l := range lists() {
		n := len(l.sets)
		whole := append(slices.Clone(l.sets), mark(), mark(), mark())
		wantSets := slices.Clone(whole)
		text := append(allBytes(), 7, 7, 7)
		wantText := bytes.Clone(text)
		block.Of(whole[:n]...)
		block.Heads(whole[:n])
		for b := range 256 {
			block.Find(whole[:n], byte(b))
		}
		block.Map(whole[:n], text[:256])
		if !slices.Equal(whole, wantSets) {
			t.Errorf("%s: the list was changed", l.name)
		}
		if !bytes.Equal(text, wantText) {
			t.Errorf("%s: the text was changed", l.name)
		}
	}
}

// fill writes x over a list and its spare capacity.
func fill[E any](l []E, x E) {
	l = l[:cap(l)]
	for i := range l {
		l[i] = x
	}
}

// answers are the lists that the functions tell of one list of sets and a text.
type answers struct {
	parts         []byteset.Set
	heads, mapped []byte
}

func ask(l []byteset.Set, s []byte) answers {
	return answers{block.Of(l...), block.Heads(l), block.Map(l, s)}
}

func (a answers) same(o answers) bool {
	return slices.Equal(a.parts, o.parts) && bytes.Equal(a.heads, o.heads) && bytes.Equal(a.mapped, o.mapped)
}

func (a answers) copied() answers {
	return answers{slices.Clone(a.parts), bytes.Clone(a.heads), bytes.Clone(a.mapped)}
}

func (a answers) fill() {
	fill(a.parts, mark())
	fill(a.heads, 42)
	fill(a.mapped, 42)
}

// TestResultsAreNew asks R4 and R5: what is done with an answer is not to be
// seen in one told before or after, nor in what was given.
func TestResultsAreNew(t *testing.T) {
	for _, l := range lists() {
		sets, text := slices.Clone(l.sets), allBytes()
		first := ask(sets, text)
		want := first.copied()
		ask(sets, text).fill()
		if !first.same(want) {
			t.Errorf("%s: an answer shares memory with a later one", l.name)
		}
		first.fill()
		if !slices.Equal(sets, l.sets) || !bytes.Equal(text, allBytes()) {
			t.Errorf("%s: an answer shares memory with what was given", l.name)
		}
		if !ask(sets, text).same(want) {
			t.Errorf("%s: an answer shares memory with an earlier one", l.name)
		}
	}
}

// TestNothingIsKept asks R4: what is given may be written over after the call.
func TestNothingIsKept(t *testing.T) {
	for _, l := range lists() {
		sets, text := slices.Clone(l.sets), allBytes()
		got := ask(sets, text)
		want := got.copied()
		fill(sets, mark())
		fill(text, 42)
		if !got.same(want) {
			t.Errorf("%s: an answer follows what was given", l.name)
		}
		if !ask(l.sets, allBytes()).same(want) {
			t.Errorf("%s: an answer hangs on an earlier call", l.name)
		}
	}
}

func ExampleOf() {
	parts := block.Of(byteset.Of('a'))
	fmt.Println(len(parts))
	for _, p := range parts {
		fmt.Println(p.Runs())
	}
	// Output:
	// 2
	// [{0 96} {98 255}]
	// [{97 97}]
}

func ExampleMap() {
	parts := block.Of(byteset.Range('a', 'z'), byteset.Range('0', '9'))
	fmt.Printf("%q\n", block.Map(parts, []byte("x9y")))
	// Output: "a0a"
}
