package value_test

import (
	"slices"
	"testing"

	"catchpole/value"
)

// rich has parts of all kinds, and of none, with all fields in use somewhere,
// and with elements that do not count.
func rich() value.Value {
	return concat(
		left(star(letter('a'), group(empty()), right(concat(letter(0), letter(255))))),
		group(star(), letter('x'), group(letter('y'))),
		star(letter('z')),
		value.Value{Kind: 2, B: 'b', L: []value.Value{letter('c'), {}}},
		value.Value{Kind: 8, B: 'd', L: []value.Value{{Kind: -1}, letter('e')}},
		value.Value{Kind: 1, B: 1, L: []value.Value{letter('f')}},
	)
}

// variety are values of each kind, and of none, no two of which are equal.
func variety() []value.Value {
	a := letter('a')
	return []value.Value{
		{}, empty(), a, letter('b'), letter(0), concat(), concat(a), concat(a, a), concat(a, letter('b')), concat(letter('b'), a), concat(a, a, a),
		left(), left(a), left(a, a), right(), right(a), right(a, a), star(), star(a), star(a, a), letters("ab"), letters("abc"),
		group(), group(a), group(a, a), group(group(a)), {Kind: 8}, {Kind: -1}, {Kind: 8, L: []value.Value{a}}, {B: 'a'}, {Kind: 1, B: 'a'},
		{Kind: 1, L: []value.Value{a}}, {Kind: 2, B: 'a', L: []value.Value{a}}, {Kind: 6, B: 'a'}, rich(), deeply().v,
	}
}

// wantSame asks in both orders whether two values are equal.
func wantSame(t *testing.T, want bool, a, b value.Value) {
	t.Helper()
	if got := value.Same(a, b); got != want {
		t.Errorf("Same of %s and %s: %v", show(a), show(b), got)
	}
	if got := value.Same(b, a); got != want {
		t.Errorf("Same of %s and %s: %v", show(b), show(a), got)
	}
}

// nested is v within that many stars, groups, concatenations and alternatives.
func nested(times int, v value.Value) value.Value {
	for i := range times {
		v = []value.Value{star(v), group(v), concat(v, letter('n')), left(v), right(v), star(letter('n'), v)}[i%6]
	}
	return v
}

func TestSame(t *testing.T) {
	all := variety()
	for i, a := range all {
		for j, b := range all {
			wantSame(t, i == j, a, clone(b))
			wantSame(t, i == j, nested(50, a), nested(50, clone(b)))
		}
		wantSame(t, true, a, a)
	}
}

// TestSameButForOne alters each field of each part, each time one alone.
func TestSameButForOne(t *testing.T) {
	changes := []func(v *value.Value){
		func(v *value.Value) { v.Kind++ },
		func(v *value.Value) { v.Kind = -v.Kind - 1 },
		func(v *value.Value) { v.Kind ^= 1 << 40 },
		func(v *value.Value) { v.B++ },
		func(v *value.Value) { v.B ^= 1 << 7 },
		func(v *value.Value) { v.L = append(v.L, letter('a')) },
		func(v *value.Value) { v.L = append(v.L, value.Value{}) },
		func(v *value.Value) { v.L = append([]value.Value{empty()}, v.L...) },
		func(v *value.Value) { v.L = append(slices.Clone(v.L), v.L...); v.L = append(v.L, empty()) },
	}
	for _, deeper := range []int{0, 1, 100} {
		base := nested(deeper, rich())
		for at := range parts(base) {
			for _, change := range changes {
				other := clone(base)
				change(partAt(&other, at))
				wantSame(t, false, base, other)
			}
			other := clone(base)
			if x := partAt(&other, at); len(x.L) > 0 {
				x.L = x.L[:len(x.L)-1]
				wantSame(t, false, base, other)
				x.L = nil
				wantSame(t, false, base, other)
			}
		}
	}
	a, b, c := letter('a'), letter('b'), letter('c')
	wantSame(t, false, concat(a, b), concat(b, a))
	wantSame(t, false, concat(concat(a, b), c), concat(a, concat(b, c)))
	wantSame(t, false, letters("ab"), concat(a, b))
	wantSame(t, false, left(a), right(a))
	wantSame(t, false, group(a), a)
	wantSame(t, false, letters("aaaa"), letters("aaa"))
	wantSame(t, false, letters("aaaa"), letters("aaab"))
}

// TestNoElements asks R4: a nil L and an empty one are equivalent, in each
// function.
func TestNoElements(t *testing.T) {
	wantSame(t, true, value.Value{}, value.Value{L: []value.Value{}})
	wantSame(t, true, letter('a'), value.Value{Kind: 2, B: 'a', L: make([]value.Value, 0, 3)})
	wantSame(t, true, value.Value{Kind: 6}, value.Value{Kind: 6, L: []value.Value{}})
	wantSame(t, false, value.Value{Kind: 6}, value.Value{Kind: 6, L: []value.Value{{}}})
	for _, v := range variety() {
		full, none := clone(v), clone(v)
		walk(&none, func(x *value.Value) {
			if len(x.L) == 0 {
				x.L = nil
			}
		})
		wantSame(t, true, full, none)
		if !slices.Equal(value.Flat(full), value.Flat(none)) || value.Len(full) != value.Len(none) || value.Text(full) != value.Text(none) || value.Size(full) != value.Size(none) {
			t.Errorf("%s: other answers with empty lists", show(v))
		}
	}
	for _, m := range append(matches(), deeply()) {
		wantGood(t, m.c, clone(m.v), true, true)
		none := clone(m.v)
		walk(&none, func(x *value.Value) {
			if len(x.L) == 0 {
				x.L = nil
			}
		})
		wantGood(t, m.c, none, true, true)
	}
}
