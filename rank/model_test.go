package rank_test

import (
	"math"
	"math/rand"
	"slices"
	"testing"

	"catchpole/rank"
	"catchpole/value"
)

// modelCounted are the elements of v that its kind uses.
func modelCounted(v value.Value) []value.Value {
	most := 0
	switch v.Kind {
	case 3:
		most = 2
	case 4, 5, 7:
		most = 1
	case 6:
		most = len(v.L)
	}
	if len(v.L) < most {
		most = len(v.L)
	}
	return v.L[:most]
}

// modelLen is the number of the bytes of v.
func modelLen(v value.Value) int {
	if v.Kind == 2 {
		return 1
	}
	n := 0
	for _, x := range modelCounted(v) {
		n += modelLen(x)
	}
	return n
}

// modelKey writes what the chapter compares as one list of numbers, so that the
// order of these lists is that of the values: the greater length first, then the
// kind, the byte if there is one, and the elements, where one more of them comes
// ahead of their end.
func modelKey(v value.Value) []int {
	key := []int{-modelLen(v), v.Kind}
	if v.Kind == 2 {
		return append(key, int(v.B))
	}
	for _, x := range modelCounted(v) {
		key = append(append(key, -1), modelKey(x)...)
	}
	return append(key, 0)
}

// modelKeys are the keys of all values of l.
func modelKeys(l []value.Value) [][]int {
	var keys [][]int
	for _, v := range l {
		keys = append(keys, modelKey(v))
	}
	return keys
}

// modelBest is the index of the first value that no other one precedes.
func modelBest(l []value.Value) int {
	keys := modelKeys(l)
	return slices.IndexFunc(keys, func(key []int) bool {
		return !slices.ContainsFunc(keys, func(other []int) bool { return slices.Compare(other, key) < 0 })
	})
}

// wantAll asks for what Cmp answers of each two values of l.
func wantAll(t *testing.T, l []value.Value) {
	t.Helper()
	keys := modelKeys(l)
	for i, v := range l {
		for j, w := range l {
			if got, want := rank.Cmp(v, w), slices.Compare(keys[i], keys[j]); got != want {
				t.Fatalf("Cmp of %s and %s: %d, want %d", show(v), show(w), got, want)
			}
		}
	}
}

// wantSorted asks that l is sorted by Cmp as the model does.
func wantSorted(t *testing.T, l []value.Value) {
	t.Helper()
	got, want := slices.Clone(l), slices.Clone(l)
	slices.SortStableFunc(got, rank.Cmp)
	slices.SortStableFunc(want, func(v, w value.Value) int { return slices.Compare(modelKey(v), modelKey(w)) })
	for i := range l {
		if !value.Same(got[i], want[i]) {
			t.Fatalf("at %d of %d: %s, want %s", i, len(l), show(got[i]), show(want[i]))
		}
	}
	if at, ok := rank.Best(l); !ok || !value.Same(l[at], want[0]) {
		t.Errorf("Best of %d values: %d, %v, want %s", len(l), at, ok, show(want[0]))
	}
}

// arbitrary are all values of each size up to that one, with elements of any
// kind, as many as there may be, whether they count or not.
func arbitrary(most int) [][]value.Value {
	var kinds []value.Value
	for kind := -1; kind <= 8; kind++ {
		kinds = append(kinds, value.Value{Kind: kind})
		if kind == 2 {
			kinds = append(kinds, letter(1))
		}
	}
	all := [][]value.Value{nil}
	for size := 1; size <= most; size++ {
		var l []value.Value
		for _, elements := range lists(all, size-1) {
			for _, v := range kinds {
				v.L = elements
				l = append(l, v)
			}
		}
		all = append(all, l)
	}
	return all
}

// lists are all lists of values that together are of that size, where all has
// those of each size.
func lists(all [][]value.Value, size int) [][]value.Value {
	if size == 0 {
		return [][]value.Value{nil}
	}
	var l [][]value.Value
	for first := 1; first <= size; first++ {
		for _, v := range all[first] {
			for _, rest := range lists(all, size-first) {
				l = append(l, append([]value.Value{v}, rest...))
			}
		}
	}
	return l
}

// formed are all values of each size up to that one that are values of some
// core.
func formed(most int) [][]value.Value {
	all := [][]value.Value{nil}
	for size := 1; size <= most; size++ {
		var l []value.Value
		if size == 1 {
			l = append(l, empty(), letter('a'), letter('b'))
		}
		for _, elements := range lists(all, size-1) {
			l = append(l, star(elements...))
			switch len(elements) {
			case 1:
				l = append(l, left(elements...), right(elements...), group(elements...))
			case 2:
				l = append(l, concat(elements...))
			}
		}
		all = append(all, l)
	}
	return all
}

func TestAllArbitraryValues(t *testing.T) {
	all := arbitrary(3)
	wantAll(t, slices.Concat(all...))
	r := rand.New(rand.NewSource(1))
	larger := arbitrary(4)[4]
	for range 40 {
		var l []value.Value
		for range 50 {
			l = append(l, larger[r.Intn(len(larger))], all[3][r.Intn(len(all[3]))])
		}
		wantAll(t, l)
	}
}

// TestAllFormedValues asks of all small values that cores have. Of these, Cmp
// tells apart all that are not equal.
func TestAllFormedValues(t *testing.T) {
	l := slices.Concat(formed(4)...)
	wantAll(t, l)
	for _, v := range l {
		for _, w := range l {
			if (rank.Cmp(v, w) == 0) != value.Same(v, w) {
				t.Fatalf("Cmp of %s and %s: %d", show(v), show(w), rank.Cmp(v, w))
			}
		}
	}
	larger := slices.Concat(formed(5)...)
	r := rand.New(rand.NewSource(2))
	for range 3 {
		r.Shuffle(len(larger), func(i, j int) { larger[i], larger[j] = larger[j], larger[i] })
		wantSorted(t, larger)
	}
}

// drawn is a value of about that size, which few bytes and kinds make like
// others.
func drawn(r *rand.Rand, size int) value.Value {
	if size < 2 {
		return []value.Value{empty(), letter('a'), letter('a'), letter('b'), star(), {Kind: 9}, concat()}[r.Intn(7)]
	}
	half := func() value.Value { return drawn(r, size/2) }
	switch r.Intn(8) {
	case 0, 1, 2:
		return concat(half(), half())
	case 3:
		return left(drawn(r, size-1))
	case 4:
		return right(drawn(r, size-1))
	case 5:
		return group(drawn(r, size-1))
	case 6:
		return value.Value{Kind: r.Intn(9), L: []value.Value{half(), half()}}
	}
	v := star()
	for range r.Intn(5) {
		v.L = append(v.L, drawn(r, size/3))
	}
	return v
}

// changed is v with one of the values in it changed.
func changed(r *rand.Rand, v value.Value) value.Value {
	v = clone(v)
	at := &v
	for len(at.L) > 0 && r.Intn(5) > 0 {
		at = &at.L[r.Intn(len(at.L))]
	}
	switch r.Intn(5) {
	case 0:
		at.Kind = 3 + r.Intn(5)
	case 1:
		at.B++
	case 2:
		at.L = append(at.L, drawn(r, 2))
	case 3:
		at.L = at.L[:len(at.L)/2]
	case 4:
		*at = drawn(r, 4)
	}
	return v
}

// TestDrawnValues asks of larger values, and of those that differ from them at
// one place or two.
func TestDrawnValues(t *testing.T) {
	r := rand.New(rand.NewSource(13))
	told := map[int]int{}
	for range 20000 {
		v := drawn(r, 1+r.Intn(40))
		w := changed(r, v)
		l := []value.Value{v, w, changed(r, w), changed(r, v), drawn(r, 10)}
		wantAll(t, l)
		wantBest(t, l, modelBest(l))
		told[rank.Cmp(v, w)]++
	}
	if told[-1] < 3000 || told[0] < 500 || told[1] < 3000 || len(told) != 3 {
		t.Errorf("Cmp answers %v", told)
	}
}

// TestDrawnLists asks for the best one of lists of each length, in which values
// stand more than once.
func TestDrawnLists(t *testing.T) {
	r := rand.New(rand.NewSource(31))
	for n := 1; n < 300; n++ {
		few := []value.Value{drawn(r, 6), drawn(r, 6), drawn(r, 6), drawn(r, 6)}
		var many, again []value.Value
		for range n {
			many = append(many, drawn(r, 1+r.Intn(6)))
			again = append(again, few[r.Intn(len(few))])
		}
		wantBest(t, many, modelBest(many))
		wantBest(t, again, modelBest(again))
	}
}

// TestExtremeKinds asks of kinds whose difference is more than an int can have.
func TestExtremeKinds(t *testing.T) {
	var l []value.Value
	for _, kind := range append(unknown(), 1, 2, 3, 4, 5, 6, 7) {
		for _, elements := range [][]value.Value{nil, {letter('a')}, {{Kind: math.MaxInt}, {Kind: math.MinInt}}, {{Kind: math.MinInt}, letter('b')}} {
			l = append(l, value.Value{Kind: kind, L: elements}, group(value.Value{Kind: kind, L: elements}))
		}
	}
	wantAll(t, l)
	wantSorted(t, l)
}

// TestModel asks the model what the chapter has as an example, and one case of
// each of its sentences.
func TestModel(t *testing.T) {
	a, e := letter('a'), empty()
	for _, pair := range [][2]value.Value{
		{concat(a, letter('b')), a},
		{left(a), right(a)},
		{a, letter('b')},
		{concat(a, e), concat(e, a)},
		{star(e, e), star(e)},
		{star(concat(a, a)), star(a, a)},
	} {
		if slices.Compare(modelKey(pair[0]), modelKey(pair[1])) != -1 || slices.Compare(modelKey(pair[1]), modelKey(pair[0])) != 1 {
			t.Errorf("%s does not precede %s", show(pair[0]), show(pair[1]))
		}
	}
	for _, pair := range [][2]value.Value{{concat(a, e, a), concat(a, e)}, {left(a, e), left(a)}, {{Kind: 9, L: []value.Value{a}}, {Kind: 9}}, {{Kind: 1, B: 1}, e}} {
		if slices.Compare(modelKey(pair[0]), modelKey(pair[1])) != 0 {
			t.Errorf("%s and %s are not equal", show(pair[0]), show(pair[1]))
		}
	}
}
