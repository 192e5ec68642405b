package value_test

import (
	"fmt"
	"slices"
	"testing"

	"catchpole/value"
)

// wantAll asks for the Flat, the Len, the Text and the Size of v, alone and
// within other values.
func wantAll(t *testing.T, v value.Value, flat, text string, size int) {
	t.Helper()
	x := letter('x')
	for _, c := range []struct {
		v          value.Value
		flat, text string
		size       int
	}{
		{v, flat, text, size},
		{concat(v, x), flat + "x", "(" + text + ",78)", size + 2},
		{concat(x, v), "x" + flat, "(78," + text + ")", size + 2},
		{concat(v), flat, "(" + text + ",)", size + 1},
		{concat(v, v, x), flat + flat, "(" + text + "," + text + ")", 2*size + 1},
		{left(v), flat, "L" + text, size + 1},
		{left(v, x), flat, "L" + text, size + 1},
		{right(v), flat, "R" + text, size + 1},
		{right(v, v), flat, "R" + text, size + 1},
		{star(v), flat, "[" + text + "]", size + 1},
		{star(v, x), flat + "x", "[" + text + ",78]", size + 2},
		{star(v, x, v), flat + "x" + flat, "[" + text + ",78," + text + "]", 2*size + 2},
		{group(v), flat, "<" + text + ">", size + 1},
		{group(v, x, v), flat, "<" + text + ">", size + 1},
		{value.Value{Kind: 1, L: []value.Value{v}}, "", "E", 1},
		{value.Value{Kind: 2, B: 'b', L: []value.Value{v, v}}, "b", "62", 1},
		{value.Value{L: []value.Value{v}}, "", "?", 1},
		{value.Value{Kind: 8, B: 'b', L: []value.Value{v}}, "", "?", 1},
	} {
		if got := value.Flat(c.v); string(got) != c.flat {
			t.Errorf("Flat of %s: %q, want %q", show(c.v), got, c.flat)
		}
		if got := value.Len(c.v); got != len(c.flat) {
			t.Errorf("Len of %s: %d, want %d", show(c.v), got, len(c.flat))
		}
		if got := value.Text(c.v); got != c.text {
			t.Errorf("Text of %s: %q, want %q", show(c.v), got, c.text)
		}
		if got := value.Size(c.v); got != c.size {
			t.Errorf("Size of %s: %d, want %d", show(c.v), got, c.size)
		}
	}
}

func TestEachKind(t *testing.T) {
	a, b, c := letter('a'), letter('b'), letter('c')
	wantAll(t, empty(), "", "E", 1)
	wantAll(t, a, "a", "61", 1)
	wantAll(t, concat(a, b), "ab", "(61,62)", 3)
	wantAll(t, concat(b, a), "ba", "(62,61)", 3)
	wantAll(t, concat(a, a), "aa", "(61,61)", 3)
	wantAll(t, concat(empty(), empty()), "", "(E,E)", 3)
	wantAll(t, left(a), "a", "L61", 2)
	wantAll(t, right(a), "a", "R61", 2)
	wantAll(t, left(right(left(empty()))), "", "LRLE", 4)
	wantAll(t, star(), "", "[]", 1)
	wantAll(t, star(a), "a", "[61]", 2)
	wantAll(t, star(empty()), "", "[E]", 2)
	wantAll(t, star(a, b, c), "abc", "[61,62,63]", 4)
	wantAll(t, star(star(), star(a), star(b, c)), "abc", "[[],[61],[62,63]]", 7)
	wantAll(t, group(a), "a", "<61>", 2)
	wantAll(t, group(group(star())), "", "<<[]>>", 3)
	wantAll(t, concat(concat(a, b), c), "abc", "((61,62),63)", 5)
	wantAll(t, concat(a, concat(b, c)), "abc", "(61,(62,63))", 5)
	wantAll(t, concat(right(concat(a, b)), concat(left(letter('c')), star(letter('d')))), "abcd", "(R(61,62),(L63,[64]))", 10)
	wantAll(t, deeply().v, "acdbcb", "(<[L61,R<(63,L64)>,L62]>,L<[R<(63,RE)>,L62]>)", 24)
}

func TestEachByte(t *testing.T) {
	for _, c := range []struct {
		b    byte
		text string
	}{{0x00, "00"}, {0x01, "01"}, {0x09, "09"}, {0x0a, "0a"}, {0x0f, "0f"}, {0x10, "10"}, {0x7f, "7f"}, {0x80, "80"}, {0x9a, "9a"}, {0xa9, "a9"}, {0xab, "ab"}, {0xcd, "cd"}, {0xef, "ef"}, {0xfe, "fe"}, {0xff, "ff"}} {
		wantAll(t, letter(c.b), string([]byte{c.b}), c.text, 1)
	}
	for b := range 256 {
		wantAll(t, letter(byte(b)), string([]byte{byte(b)}), fmt.Sprintf("%02x", b), 1)
	}
}

// TestMissingElements asks of values whose L is too short.
func TestMissingElements(t *testing.T) {
	a := letter('a')
	wantAll(t, concat(), "", "(,)", 1)
	wantAll(t, concat(a), "a", "(61,)", 2)
	wantAll(t, concat(concat()), "", "((,),)", 2)
	wantAll(t, concat(concat(), concat(a)), "a", "((,),(61,))", 4)
	wantAll(t, left(), "", "L", 1)
	wantAll(t, right(), "", "R", 1)
	wantAll(t, left(right()), "", "LR", 2)
	wantAll(t, group(), "", "<>", 1)
	wantAll(t, star(left(), group(), concat(a), right()), "a", "[L,<>,(61,),R]", 6)
	for _, l := range [][]value.Value{nil, {}, make([]value.Value, 0, 5)} {
		wantAll(t, value.Value{Kind: 3, L: l}, "", "(,)", 1)
		wantAll(t, value.Value{Kind: 4, L: l}, "", "L", 1)
		wantAll(t, value.Value{Kind: 5, L: l}, "", "R", 1)
		wantAll(t, value.Value{Kind: 6, L: l}, "", "[]", 1)
		wantAll(t, value.Value{Kind: 7, L: l}, "", "<>", 1)
	}
	// What lies behind the length of L is not there.
	wantAll(t, value.Value{Kind: 3, L: []value.Value{a, a}[:1]}, "a", "(61,)", 2)
	wantAll(t, value.Value{Kind: 3, L: []value.Value{a, a}[:0]}, "", "(,)", 1)
	wantAll(t, value.Value{Kind: 4, L: []value.Value{a}[:0]}, "", "L", 1)
	wantAll(t, value.Value{Kind: 7, L: []value.Value{a}[:0]}, "", "<>", 1)
}

// TestElementsThatDoNotCount asks of values whose L is too long, also of long
// ones and of wrong ones in it.
func TestElementsThatDoNotCount(t *testing.T) {
	a, b := letter('a'), letter('b')
	for _, more := range [][]value.Value{{b}, {{}}, {empty()}, {b, b}, {star(b, b, b)}, {{Kind: -1}, group(b)}, slices.Repeat([]value.Value{b}, 1000)} {
		with := func(l ...value.Value) []value.Value { return append(l, more...) }
		wantAll(t, value.Value{Kind: 1, L: with()}, "", "E", 1)
		wantAll(t, value.Value{Kind: 1, L: with(a)}, "", "E", 1)
		wantAll(t, value.Value{Kind: 2, B: 'c', L: with()}, "c", "63", 1)
		wantAll(t, value.Value{Kind: 2, B: 'c', L: with(a, a)}, "c", "63", 1)
		wantAll(t, value.Value{Kind: 3, L: with(a, a)}, "aa", "(61,61)", 3)
		wantAll(t, value.Value{Kind: 4, L: with(a)}, "a", "L61", 2)
		wantAll(t, value.Value{Kind: 5, L: with(a)}, "a", "R61", 2)
		wantAll(t, value.Value{Kind: 7, L: with(a)}, "a", "<61>", 2)
	}
	wantAll(t, concat(a, empty(), b), "a", "(61,E)", 3)
	wantAll(t, star(a, concat(a, b, b), group(b, b), left(b, a), right(b, a)), "aabbbb", "[61,(61,62),<62>,L62,R62]", 11)
}

func TestUnknownKinds(t *testing.T) {
	a := letter('a')
	for _, kind := range unknown() {
		for _, l := range [][]value.Value{nil, {}, {a}, {a, a}, {a, a, a}, {star(a, a)}, {{}}} {
			for _, b := range []byte{0, 'a', 255} {
				wantAll(t, value.Value{Kind: kind, B: b, L: l}, "", "?", 1)
			}
		}
	}
	wantAll(t, concat(value.Value{}, a), "a", "(?,61)", 3)
	wantAll(t, star(value.Value{Kind: 9}, a, value.Value{Kind: -9}), "a", "[?,61,?]", 4)
}

// TestOtherBytes asks that B counts for kind 2 alone.
func TestOtherBytes(t *testing.T) {
	a := letter('a')
	for _, b := range []byte{1, 'b', 255} {
		wantAll(t, value.Value{Kind: 1, B: b}, "", "E", 1)
		wantAll(t, value.Value{Kind: 3, B: b, L: []value.Value{a, a}}, "aa", "(61,61)", 3)
		wantAll(t, value.Value{Kind: 4, B: b, L: []value.Value{a}}, "a", "L61", 2)
		wantAll(t, value.Value{Kind: 5, B: b, L: []value.Value{a}}, "a", "R61", 2)
		wantAll(t, value.Value{Kind: 6, B: b}, "", "[]", 1)
		wantAll(t, value.Value{Kind: 7, B: b, L: []value.Value{a}}, "a", "<61>", 2)
	}
}

func ExampleText() {
	fmt.Println(value.Text(value.Value{Kind: 3, L: []value.Value{{Kind: 2, B: 'a'}, {Kind: 2, B: 'b'}}}))
	// Output: (61,62)
}
