package rank_test

import (
	"math"
	"slices"
	"testing"

	"catchpole/rank"
	"catchpole/value"
)

// The functions with the signatures that the chapter lists: others would not
// build.
var (
	_ func(value.Value, value.Value) int = rank.Cmp
	_ func([]value.Value) (int, bool)    = rank.Best
)

func empty() value.Value { return value.Value{Kind: 1} }

func letter(b byte) value.Value { return value.Value{Kind: 2, B: b} }

func concat(l ...value.Value) value.Value { return value.Value{Kind: 3, L: l} }

func left(l ...value.Value) value.Value { return value.Value{Kind: 4, L: l} }

func right(l ...value.Value) value.Value { return value.Value{Kind: 5, L: l} }

func star(l ...value.Value) value.Value { return value.Value{Kind: 6, L: l} }

func group(l ...value.Value) value.Value { return value.Value{Kind: 7, L: l} }

// letters is a star of the bytes of text.
func letters(text string) value.Value {
	v := star()
	for _, b := range []byte(text) {
		v.L = append(v.L, letter(b))
	}
	return v
}

// unknown are kinds that no value of a core has.
func unknown() []int {
	return []int{math.MinInt, -1 << 32, -256, -7, -6, -2, -1, 0, 8, 9, 255, 256, 258, 262, 1<<32 + 2, 1<<32 + 6, math.MaxInt}
}

// show is a text of a value, or the beginning of a long one.
func show(v value.Value) string {
	text := value.Text(v)
	return text[:min(len(text), 100)]
}

// wantCmp asks for what Cmp answers of v and w, in both orders, and which one of
// them is the best, wherever they stand.
func wantCmp(t *testing.T, v, w value.Value, want int) {
	t.Helper()
	if got, back := rank.Cmp(v, w), rank.Cmp(w, v); got != want || back != -want {
		t.Errorf("Cmp of %s and %s: %d, and back %d, want %d", show(v), show(w), got, back, want)
	}
	first, second := 0, 1
	switch want {
	case 1:
		first, second = 1, 0
	case 0:
		second = 0
	}
	wantBest(t, []value.Value{v, w}, first)
	wantBest(t, []value.Value{w, v}, second)
}

// wantAscending asks that each value of l precedes all those behind it.
func wantAscending(t *testing.T, l ...value.Value) {
	t.Helper()
	for i, v := range l {
		for j, w := range l {
			switch {
			case i < j:
				wantCmp(t, v, w, -1)
			case i == j:
				wantCmp(t, v, w, 0)
			}
		}
	}
}

// TestExample asks what the chapter has as an example.
func TestExample(t *testing.T) {
	wantCmp(t, concat(letter('a'), letter('b')), letter('a'), -1)
	wantCmp(t, letter('a'), concat(letter('a'), letter('b')), 1)
	wantCmp(t, left(letter('a')), right(concat(letter('a'), letter('b'))), 1)
}

// TestLonger asks that the greater length precedes, whatever else the values
// are.
func TestLonger(t *testing.T) {
	a, b := letter('a'), letter('b')
	wantAscending(t,
		group(right(letters("bbbb"))),
		concat(right(concat(b, b)), b),
		star(b, star(), b),
		left(a),
		empty(),
	)
	wantAscending(t, letters("aaaa"), letters("bbb"), letters("aa"), letters("b"), letters(""))
	wantAscending(t, letters("zz"), letter('a'), star(empty(), empty(), empty()))
	wantAscending(t, value.Value{Kind: 7, L: []value.Value{right(b)}}, value.Value{Kind: math.MinInt, L: []value.Value{a, a}})
	for n := range 40 {
		long, short := star(slices.Repeat([]value.Value{b}, n+1)...), star(slices.Repeat([]value.Value{a}, n)...)
		wantCmp(t, long, short, -1)
		wantCmp(t, group(right(long)), left(short), -1)
	}
}

// TestKinds asks that the lesser kind precedes among values of the same length,
// of unknown kinds also, whatever they have within them.
func TestKinds(t *testing.T) {
	a, b, e := letter('a'), letter('b'), empty()
	wantAscending(t, b, concat(b, e), left(b), right(a), star(a), group(a))
	wantAscending(t, e, concat(e, e), left(right(e)), right(e), star(e, e), group(e))
	wantAscending(t, e, concat(), left(), right(), star(), group())
	wantAscending(t, concat(e, letter('z')), left(concat(letter('a'), e)))
	wantAscending(t, left(b), right(a), star(a))
	wantAscending(t, left(group(star(group(b)))), right(a))
	kinds := append(unknown(), 1, 3, 4, 5, 6, 7)
	slices.Sort(kinds)
	var l []value.Value
	for _, kind := range kinds {
		l = append(l, value.Value{Kind: kind})
	}
	wantAscending(t, l...)
	wantAscending(t, value.Value{Kind: -1}, value.Value{}, e, star(), value.Value{Kind: 8, B: 'a', L: []value.Value{a}})
}

// TestBytes asks of all bytes: the lesser one precedes.
func TestBytes(t *testing.T) {
	for b := range 256 {
		for c := range 256 {
			want := 0
			switch {
			case b < c:
				want = -1
			case b > c:
				want = 1
			}
			wantCmp(t, letter(byte(b)), letter(byte(c)), want)
			wantCmp(t, group(letter(byte(b))), group(letter(byte(c))), want)
		}
	}
}

// TestElements asks that the first difference between elements decides, each of
// which is itself one of length, of kind and so on.
func TestElements(t *testing.T) {
	a, b, e := letter('a'), letter('b'), empty()
	for _, one := range []func(...value.Value) value.Value{left, right, star, group} {
		wantAscending(t, one(a), one(b), one(concat(a, e)), one(left(b)), one(right(a)), one(group(a)))
		wantAscending(t, one(letters("aa")), one(letters("z")), one(e))
	}
	for _, two := range []func(...value.Value) value.Value{concat, star} {
		wantAscending(t, two(a, a), two(a, b), two(b, a), two(b, b))
		wantAscending(t, two(letters("aa"), b), two(letters("ab"), a), two(a, letters("aa")), two(b, letters("aa")), two(e, letters("aaa")))
		wantAscending(t, two(left(b), right(b)), two(right(a), left(a)))
		wantAscending(t, two(left(a), left(b)), two(left(a), right(a)), two(left(b), left(a)))
	}
	// The first one decides, even if all others say the opposite.
	wantAscending(t, star(a, b, b, b, group(b)), star(b, a, a, a, left(a)))
	wantAscending(t, star(a, a, b, star(e)), star(a, b, a, e))
	wantAscending(t, concat(left(group(b)), group(b)), concat(right(a), a))
	wantAscending(t, concat(concat(concat(a, b), b), b), concat(concat(concat(b, a), a), a))
	wantAscending(t, concat(a, concat(b, concat(a, b))), concat(a, concat(b, concat(b, a))))
}

// TestLengthWithin asks that lengths are held against each other at each level,
// ahead of the kinds there.
func TestLengthWithin(t *testing.T) {
	a, b := letter('a'), letter('b')
	wantAscending(t, concat(right(concat(a, b)), a), concat(left(a), concat(b, a)))
	wantAscending(t, star(right(concat(a, b))), star(left(a), right(b)))
	wantAscending(t, star(group(letters("bb")), a), star(a, group(letters("bb"))))
	wantAscending(t,
		concat(letters("abc"), concat(letters(""), letters(""))),
		concat(letters("ab"), concat(letters("c"), letters(""))),
		concat(letters("ab"), concat(letters(""), letters("c"))),
		concat(letters("a"), concat(letters("bc"), letters(""))),
		concat(letters("a"), concat(letters("b"), letters("c"))),
		concat(letters(""), concat(letters("abc"), letters(""))),
	)
	// Elements that are equally long as a whole may not be so within.
	wantAscending(t, concat(concat(letters("ab"), letters("")), a), concat(concat(letters("a"), letters("a")), a))
}

// TestMoreElements asks that more elements precede where those of both are
// equal.
func TestMoreElements(t *testing.T) {
	a, e := letter('a'), empty()
	wantAscending(t, star(e, e, e), star(e, e), star(e), star())
	wantAscending(t, star(a, e, star(e)), star(a, e, star()), star(a, e), star(a))
	wantAscending(t, star(star(e)), star(star()), star())
	wantAscending(t, star(a, star()), star(a))
	// Not so where one of those that both have differs.
	wantAscending(t, star(a, e), star(star(a), e, e, e))
	wantAscending(t, star(e), star(star(), e, e))
	wantAscending(t, star(left(a)), star(right(a), e))
	// The greater length of all is not that of more elements.
	wantAscending(t, star(letters("ab")), star(a, e, e, e, e))
	wantAscending(t, star(letters("ab")), star(a, letter('b')))
	// Within others.
	wantAscending(t, group(star(e, e)), group(star(e)), group(star()))
	wantAscending(t, concat(star(e), star()), concat(star(), star(e)), concat(star(), star()))
	wantAscending(t, star(star(a, e), a), star(star(a), a, e))
}

// TestTooFewElements asks of values that have fewer elements than their kind
// has: among them, more precede also.
func TestTooFewElements(t *testing.T) {
	a, e := letter('a'), empty()
	wantAscending(t, concat(e, e), concat(e), concat())
	wantAscending(t, concat(a, e), concat(a), concat(star(a)))
	wantAscending(t, concat(a, a), concat(a), concat(e))
	wantAscending(t, left(a), left(e), left())
	wantAscending(t, right(e), right(star()), right())
	wantAscending(t, group(e), group(group()), group())
	wantAscending(t, concat(e), left(), right(), star(), group(e))
	wantAscending(t, star(concat(e, e)), star(concat(e)), star(concat()))
	wantAscending(t, concat(left(), e), concat(left()), concat(right(e), e))
}

// TestWhatDoesNotCount asks that elements which the kind does not use change
// nothing, and nor does the byte of another kind than 2.
func TestWhatDoesNotCount(t *testing.T) {
	a, b, e := letter('a'), letter('b'), empty()
	for _, spare := range [][]value.Value{{e}, {a}, {b, a}, {star(a, a), group(b)}, {{}, {Kind: 9}}, {concat(), left()}} {
		wantCmp(t, concat(append([]value.Value{a, b}, spare...)...), concat(a, b), 0)
		wantCmp(t, concat(append([]value.Value{a, b}, spare...)...), concat(a, b, b, b, b), 0)
		wantCmp(t, concat(append([]value.Value{b, a}, spare...)...), concat(a, b), 1)
		for _, one := range []func(...value.Value) value.Value{left, right, group} {
			wantCmp(t, one(append([]value.Value{a}, spare...)...), one(a), 0)
			wantCmp(t, one(append([]value.Value{a}, spare...)...), one(b), -1)
			wantCmp(t, star(one(append([]value.Value{a}, spare...)...)), star(one(a, b)), 0)
		}
		for _, kind := range append(unknown(), 1) {
			wantCmp(t, value.Value{Kind: kind, L: spare}, value.Value{Kind: kind}, 0)
			wantCmp(t, value.Value{Kind: kind, L: spare}, a, 1)
		}
		wantCmp(t, value.Value{Kind: 2, B: 'a', L: spare}, a, 0)
		wantCmp(t, value.Value{Kind: 2, B: 'b', L: spare}, a, 1)
		wantCmp(t, value.Value{Kind: 2, B: 'a', L: spare}, concat(a, a), 1)
	}
	for _, kind := range append(unknown(), 1, 3, 4, 5, 6, 7) {
		wantCmp(t, value.Value{Kind: kind, B: 'b'}, value.Value{Kind: kind, B: 'a'}, 0)
		wantCmp(t, value.Value{Kind: kind, B: 255, L: []value.Value{a, e}}, value.Value{Kind: kind, L: []value.Value{a, e}}, 0)
	}
	// Those of a star all count.
	wantCmp(t, star(a, b, a), star(a, b), -1)
	wantCmp(t, star(a, b, a), star(a, b, b), -1)
}

// TestEqual asks of values that are equal, with memory of their own and without.
func TestEqual(t *testing.T) {
	for _, v := range []value.Value{{}, empty(), letter('a'), concat(letter('a'), empty()), left(letters("abc")), right(group(star())), star(letters("ab"), letters("ab")), group(concat())} {
		wantCmp(t, v, v, 0)
		wantCmp(t, v, clone(v), 0)
	}
	wantCmp(t, star(), value.Value{Kind: 6, L: []value.Value{}}, 0)
	wantCmp(t, value.Value{Kind: 1, L: []value.Value{}}, empty(), 0)
}

// clone is v with memory of its own.
func clone(v value.Value) value.Value {
	l := make([]value.Value, len(v.L))
	for i, x := range v.L {
		l[i] = clone(x)
	}
	v.L = l
	return v
}
