package eager_test

import (
	"math"
	"slices"
	"strings"
	"testing"

	"catchpole/eager"
	"catchpole/value"
)

// The functions with the signatures that the chapter lists: others would not
// build.
var (
	_ func(value.Value, value.Value) int = eager.Cmp
	_ func([]value.Value) (int, bool)    = eager.Best
	_ func(value.Value, value.Value) int = eager.Apart
)

func empty() value.Value { return value.Value{Kind: 1} }

func letter(b byte) value.Value { return value.Value{Kind: 2, B: b} }

func concat(l ...value.Value) value.Value { return value.Value{Kind: 3, L: l} }

func left(l ...value.Value) value.Value { return value.Value{Kind: 4, L: l} }

func right(l ...value.Value) value.Value { return value.Value{Kind: 5, L: l} }

func star(l ...value.Value) value.Value { return value.Value{Kind: 6, L: l} }

func group(l ...value.Value) value.Value { return value.Value{Kind: 7, L: l} }

// letters is a star of the bytes of text.
func letters(text string) value.Value {
	v := star()
	for _, b := range []byte(text) {
		v.L = append(v.L, letter(b))
	}
	return v
}

// choosing is a value whose choices are those.
func choosing(choices string) value.Value {
	v := empty()
	for _, choice := range slices.Backward([]byte(choices)) {
		if choice == '0' {
			v = left(v)
		} else {
			v = right(v)
		}
	}
	return v
}

// unknown are kinds that no value of a core has.
func unknown() []int {
	return []int{math.MinInt, -1 << 32, -256, -6, -5, -4, -1, 0, 8, 9, 255, 256 + 4, 256 + 6, 1<<32 + 5, 1<<32 + 6, math.MaxInt}
}

// show is a text of a value, or the beginning of a long one.
func show(v value.Value) string {
	text := value.Text(v)
	return text[:min(len(text), 100)]
}

// wantOrder asks for what Cmp and Apart answer of v and w, in both orders, and
// which one of them is the best, wherever they stand.
func wantOrder(t *testing.T, v, w value.Value, order, apart int) {
	t.Helper()
	if got, back := eager.Cmp(v, w), eager.Cmp(w, v); got != order || back != -order {
		t.Errorf("Cmp of %s and %s: %d, and back %d, want %d", show(v), show(w), got, back, order)
	}
	if got, back := eager.Apart(v, w), eager.Apart(w, v); got != apart || back != apart {
		t.Errorf("Apart of %s and %s: %d, and back %d, want %d", show(v), show(w), got, back, apart)
	}
	first, second := 0, 1
	switch order {
	case 1:
		first, second = 1, 0
	case 0:
		second = 0
	}
	wantBest(t, []value.Value{v, w}, first)
	wantBest(t, []value.Value{w, v}, second)
}

// wantEqual asks that v and w have the same choices.
func wantEqual(t *testing.T, v, w value.Value) {
	t.Helper()
	wantOrder(t, v, w, 0, -1)
}

// wantAscending asks that each value of l precedes all those behind it.
func wantAscending(t *testing.T, l ...value.Value) {
	t.Helper()
	for i, v := range l {
		for j, w := range l {
			want := 0
			switch {
			case i < j:
				want = -1
			case i > j:
				want = 1
			}
			if got := eager.Cmp(v, w); got != want {
				t.Errorf("Cmp of %s and %s: %d, want %d", show(v), show(w), got, want)
			}
			if got := eager.Apart(v, w); (got == -1) != (want == 0) {
				t.Errorf("Apart of %s and %s: %d", show(v), show(w), got)
			}
		}
	}
}

// TestExample asks what the chapter has as an example.
func TestExample(t *testing.T) {
	a, ab := left(letter('a')), right(concat(letter('a'), letter('b')))
	wantOrder(t, a, ab, -1, 0)
	wantBest(t, []value.Value{a, ab}, 0)
	wantBest(t, []value.Value{ab, a}, 1)
}

// TestChoices asks of values whose choices are those: at which index they
// differ, and which ones precede.
func TestChoices(t *testing.T) {
	for _, x := range []struct {
		first, second string
		apart         int
	}{
		{"", "0", 0},
		{"", "1", 0},
		{"", "0101", 0},
		{"0", "1", 0},
		{"0", "00", 1},
		{"0", "01", 1},
		{"1", "10", 1},
		{"1", "11", 1},
		{"00", "1", 0},
		{"01", "1", 0},
		{"0111111", "1", 0},
		{"01", "10", 0},
		{"00", "01", 1},
		{"10", "11", 1},
		{"10", "101", 2},
		{"100", "11", 1},
		{"1011", "110", 1},
		{"0101010", "0101011", 6},
		{"0101010", "01010101", 7},
		{"0101010", "0101100", 4},
		{"00000000", "00000001", 7},
		{"00000000", "000000000", 8},
		{"0111", "1000", 0},
		{"010", "0110", 2},
	} {
		wantOrder(t, choosing(x.first), choosing(x.second), -1, x.apart)
		wantEqual(t, choosing(x.first), choosing(x.first))
		wantEqual(t, choosing(x.second), choosing(x.second))
		// The same within others.
		wantOrder(t, concat(choosing("011"), choosing(x.first)), concat(choosing("011"), choosing(x.second)), -1, x.apart+3)
		wantOrder(t, group(right(choosing(x.first))), group(right(choosing(x.second))), -1, x.apart+1)
	}
}

// TestKinds asks for the choices that each kind of values has.
func TestKinds(t *testing.T) {
	a, b, e := letter('a'), letter('b'), empty()
	for _, x := range []struct {
		v       value.Value
		choices string
	}{
		{e, ""},
		{a, ""},
		{letter('0'), ""},
		{letter('1'), ""},
		{concat(a, b), ""},
		{concat(left(a), right(b)), "01"},
		{concat(right(a), left(b)), "10"},
		{left(a), "0"},
		{right(b), "1"},
		{left(right(a)), "01"},
		{right(left(a)), "10"},
		{star(), "1"},
		{star(a), "01"},
		{star(a, b), "001"},
		{star(e), "01"},
		{star(right(a), left(b)), "01001"},
		{star(star(a, b), star()), "0001011"},
		{group(a), ""},
		{group(right(a)), "1"},
		{group(group(star(left(a)))), "001"},
		{concat(group(star(left(a), right(b))), star(star())), "00011" + "011"},
	} {
		wantEqual(t, x.v, choosing(x.choices))
		wantEqual(t, concat(x.v, x.v), choosing(x.choices+x.choices))
		wantOrder(t, x.v, choosing(x.choices+"0"), -1, len(x.choices))
		wantOrder(t, x.v, choosing(x.choices+"1"), -1, len(x.choices))
		for at, choice := range x.choices {
			if choice == '0' {
				wantOrder(t, x.v, choosing(x.choices[:at]+"1"), -1, at)
			} else {
				wantOrder(t, x.v, choosing(x.choices[:at]+"0"), 1, at)
				wantOrder(t, x.v, choosing(x.choices[:at]+"00000000"), 1, at)
			}
			wantOrder(t, x.v, choosing(x.choices[:at]), 1, at)
		}
	}
}

// TestLeftFirst asks that the left element of an alternative precedes the right
// one, whatever they are.
func TestLeftFirst(t *testing.T) {
	a, b := letter('a'), letter('b')
	for _, v := range []value.Value{a, empty(), letters("abc"), star(star(), star()), right(right(b)), concat(right(a), right(b))} {
		for _, w := range []value.Value{b, empty(), letters("abcd"), left(left(left(a))), group(star(left(a)))} {
			wantOrder(t, left(v), right(w), -1, 0)
			wantOrder(t, star(a, left(v)), star(a, right(w)), -1, 2)
			wantOrder(t, group(concat(a, left(v))), concat(right(w), left(b)), -1, 0)
		}
	}
	wantAscending(t, left(left(b)), left(right(b)), right(left(a)), right(right(a)))
	wantAscending(t, concat(left(b), left(b)), concat(left(b), right(a)), concat(right(a), left(b)), concat(right(a), right(a)))
}

// TestFurtherFirst asks that a further iteration precedes none, unless what is
// ahead of it differs.
func TestFurtherFirst(t *testing.T) {
	a, b, e := letter('a'), letter('b'), empty()
	wantAscending(t, letters("zzzz"), letters("zzz"), letters("zz"), letters("a"), letters(""))
	wantAscending(t, star(e, e, e), star(e, e), star(e), star())
	wantAscending(t, star(star(a, b)), star(star(a), star(b)), star(star(a)), star(star()), star())
	wantAscending(t, star(left(a), left(a), right(b)), star(left(a), left(a)), star(left(a), right(b), left(a)), star(left(a)), star(right(b), left(a)), star(right(b)), star())
	wantOrder(t, star(right(a), left(a), left(a)), star(left(a)), 1, 1)
	for n := range 50 {
		long, short := letters(strings.Repeat("b", n+1)), letters(strings.Repeat("a", n))
		wantOrder(t, long, short, -1, n)
		wantOrder(t, concat(long, right(e)), concat(short, left(e)), -1, n)
	}
}

// TestNotPosix asks for what the other policy tells otherwise: neither lengths
// nor bytes nor kinds matter.
func TestNotPosix(t *testing.T) {
	a, b, e := letter('a'), letter('b'), empty()
	wantOrder(t, left(e), right(letters("abcdef")), -1, 0)
	wantOrder(t, left(letters("ab")), left(letters("abc")), 1, 3)
	wantEqual(t, a, concat(a, a))
	wantEqual(t, a, b)
	wantEqual(t, e, a)
	wantEqual(t, group(a), concat(a, concat(b, e)))
	wantEqual(t, letters("ab"), letters("ba"))
	wantEqual(t, left(e), left(group(concat(a, b))))
	wantEqual(t, star(), right(a))
	wantEqual(t, star(a), left(star()))
	wantEqual(t, star(a), left(right(b)))
	wantEqual(t, star(a, star(), left(a)), left(concat(left(right(e)), star(left(e)))))
	wantOrder(t, e, left(letters("ab")), -1, 0)
	wantOrder(t, concat(a, concat(a, a)), star(a), -1, 0)
	wantAscending(t, group(b), left(a), letters("aa"), letters("a"), right(a))
}

// TestBytes asks of all bytes, which are no choices.
func TestBytes(t *testing.T) {
	for b := range 256 {
		for _, c := range []byte{0, '/', '0', '1', '2', 'a', 255} {
			v, w := letter(byte(b)), letter(c)
			wantEqual(t, v, w)
			wantEqual(t, star(v, w), star(w, v))
			wantOrder(t, left(v), right(w), -1, 0)
			wantOrder(t, concat(v, right(v)), concat(w, right(left(w))), -1, 1)
		}
	}
}

// TestUnknownKinds asks that unknown kinds have no choices, whatever is in them.
func TestUnknownKinds(t *testing.T) {
	a := letter('a')
	for _, kind := range unknown() {
		for _, l := range [][]value.Value{nil, {{}}, {right(a)}, {left(a), star(a)}, {star(), star(), star()}} {
			v := value.Value{Kind: kind, B: '0', L: l}
			wantEqual(t, v, empty())
			wantEqual(t, v, value.Value{Kind: 9})
			wantEqual(t, star(v, left(v)), star(a, left(a)))
			wantOrder(t, v, left(v), -1, 0)
			wantOrder(t, v, star(), -1, 0)
			wantEqual(t, concat(v, right(v)), concat(right(a), v))
			wantOrder(t, concat(right(v), left(v)), concat(right(v), right(v)), -1, 1)
		}
	}
}

// TestTooFewElements asks of values that have fewer elements than their kind
// has, which have the choices that there are.
func TestTooFewElements(t *testing.T) {
	a, e := letter('a'), empty()
	wantEqual(t, concat(), e)
	wantEqual(t, concat(a), a)
	wantEqual(t, concat(right(a)), right(a))
	wantEqual(t, left(), left(a))
	wantEqual(t, right(), right(a))
	wantEqual(t, right(), star())
	wantEqual(t, group(), e)
	wantEqual(t, star(left(), right(), concat(), group()), choosing("00"+"01"+"0"+"0"+"1"))
	wantOrder(t, left(), left(left()), -1, 1)
	wantOrder(t, concat(left()), concat(left(), left()), -1, 1)
	wantOrder(t, concat(left(), right()), concat(right()), -1, 0)
	wantOrder(t, group(), group(right()), -1, 0)
	wantAscending(t, concat(), left(), star(left()), star(right()), right())
}

// TestWhatDoesNotCount asks that elements which the kind does not use change
// nothing, and nor does the byte of any kind.
func TestWhatDoesNotCount(t *testing.T) {
	a, e, yes, no := letter('a'), empty(), left(letter('a')), right(letter('b'))
	for _, spare := range [][]value.Value{{e}, {yes}, {no, yes}, {star(a, a), group(no)}, {{}, {Kind: 9}}} {
		wantEqual(t, concat(append([]value.Value{yes, no}, spare...)...), concat(yes, no))
		wantOrder(t, concat(append([]value.Value{yes, no}, spare...)...), concat(no, yes), -1, 0)
		for _, one := range []func(...value.Value) value.Value{left, right, group} {
			wantEqual(t, one(append([]value.Value{no}, spare...)...), one(no))
			wantEqual(t, star(one(append([]value.Value{yes}, spare...)...), a), star(one(yes), a))
		}
		for _, kind := range append(unknown(), 1, 2) {
			wantEqual(t, value.Value{Kind: kind, L: spare}, e)
		}
	}
	for _, kind := range append(unknown(), 1, 2, 3, 4, 5, 6, 7) {
		wantEqual(t, value.Value{Kind: kind, B: '1'}, value.Value{Kind: kind, B: '0'})
		wantEqual(t, value.Value{Kind: kind, B: 255, L: []value.Value{yes, no}}, value.Value{Kind: kind, L: []value.Value{yes, no}})
	}
	// Those of a star all count.
	wantOrder(t, star(yes, yes, no), star(yes, yes), -1, 4)
	wantOrder(t, star(yes, yes, no), star(yes, yes, yes), 1, 5)
}

// TestEqual asks of values that are equal, with memory of their own and without.
func TestEqual(t *testing.T) {
	for _, v := range []value.Value{{}, empty(), letter('a'), concat(right(letter('a')), empty()), left(letters("abc")), right(group(star())), star(letters("ab"), letters("ab")), group(concat())} {
		wantEqual(t, v, v)
		wantEqual(t, v, clone(v))
	}
	wantEqual(t, star(), value.Value{Kind: 6, L: []value.Value{}})
	wantEqual(t, left(), value.Value{Kind: 4, L: []value.Value{}})
	wantEqual(t, empty(), value.Value{Kind: 1, L: []value.Value{}})
}

// clone is v with memory of its own.
func clone(v value.Value) value.Value {
	l := make([]value.Value, len(v.L))
	for i, x := range v.L {
		l[i] = clone(x)
	}
	v.L = l
	return v
}
