package eager_test

import (
	"math/rand"
	"slices"
	"testing"

	"catchpole/eager"
	"catchpole/value"
)

// modelChoices are the choices of v as numbers, as chapter 11 tells them.
func modelChoices(v value.Value) []int {
	l := [][]int{}
	for _, x := range v.L {
		l = append(l, modelChoices(x))
	}
	two := append(slices.Clone(l), nil, nil)
	switch v.Kind {
	case 3:
		return slices.Concat(two[0], two[1])
	case 4:
		return slices.Concat([]int{0}, two[0])
	case 5:
		return slices.Concat([]int{1}, two[0])
	case 6:
		var all []int
		for _, x := range l {
			all = slices.Concat(all, []int{0}, x)
		}
		return append(all, 1)
	case 7:
		return two[0]
	}
	return nil
}

// modelCmp is -1 if the choices v precede w.
func modelCmp(v, w []int) int {
	switch {
	case len(v) == 0 && len(w) == 0:
		return 0
	case len(v) == 0:
		return -1
	case len(w) == 0:
		return 1
	case v[0] == w[0]:
		return modelCmp(v[1:], w[1:])
	}
	return v[0] - w[0]
}

// modelApart is the first index at which v and w differ.
func modelApart(v, w []int) int {
	if slices.Equal(v, w) {
		return -1
	}
	at := 0
	for at < len(v) && at < len(w) && slices.Equal(v[:at+1], w[:at+1]) {
		at++
	}
	return at
}

// modelAll are the choices of all values of l.
func modelAll(l []value.Value) [][]int {
	var all [][]int
	for _, v := range l {
		all = append(all, modelChoices(v))
	}
	return all
}

// modelBest is the index of the first value that no other one precedes.
func modelBest(l []value.Value) int {
	all := modelAll(l)
	return slices.IndexFunc(all, func(v []int) bool {
		return !slices.ContainsFunc(all, func(w []int) bool { return modelCmp(w, v) < 0 })
	})
}

// wantAll asks for what Cmp and Apart answer of each two values of l, and for the
// best of all.
func wantAll(t *testing.T, l []value.Value) {
	t.Helper()
	all := modelAll(l)
	for i, v := range l {
		for j, w := range l {
			if got, want := eager.Cmp(v, w), modelCmp(all[i], all[j]); got != want {
				t.Fatalf("Cmp of %s and %s: %d, want %d", show(v), show(w), got, want)
			}
			if got, want := eager.Apart(v, w), modelApart(all[i], all[j]); got != want {
				t.Fatalf("Apart of %s and %s: %d, want %d", show(v), show(w), got, want)
			}
		}
	}
	wantBest(t, l, modelBest(l))
}

// arbitrary are all values of each size up to that one, with elements of any
// kind, as many as there may be, whether they count or not.
func arbitrary(most int) [][]value.Value {
	all := [][]value.Value{nil}
	for size := 1; size <= most; size++ {
		var l []value.Value
		for _, elements := range lists(all, size-1) {
			for kind := -1; kind <= 8; kind++ {
				l = append(l, value.Value{Kind: kind, B: byte(len(l)), L: elements})
			}
		}
		all = append(all, l)
	}
	return all
}

// lists are all lists of values that together are of that size, where all has
// those of each size.
func lists(all [][]value.Value, size int) [][]value.Value {
	if size == 0 {
		return [][]value.Value{nil}
	}
	var l [][]value.Value
	for first := 1; first <= size; first++ {
		for _, v := range all[first] {
			for _, rest := range lists(all, size-first) {
				l = append(l, append([]value.Value{v}, rest...))
			}
		}
	}
	return l
}

func TestAllArbitraryValues(t *testing.T) {
	all := arbitrary(4)
	wantAll(t, slices.Concat(all[:3]...))
	r := rand.New(rand.NewSource(1))
	for range 60 {
		var l []value.Value
		for range 50 {
			l = append(l, all[4][r.Intn(len(all[4]))], all[3][r.Intn(len(all[3]))])
		}
		wantAll(t, l)
	}
	for _, v := range slices.Concat(all...) {
		wantEqual(t, v, numbered(modelChoices(v)))
	}
}

// numbered is a value whose choices are those.
func numbered(choices []int) value.Value {
	v := empty()
	for _, choice := range slices.Backward(choices) {
		v = value.Value{Kind: 4 + choice, L: []value.Value{v}}
	}
	return v
}

// TestAllChoices asks of all choices of up to six, each against each.
func TestAllChoices(t *testing.T) {
	all := []string{""}
	last := all
	for range 6 {
		var next []string
		for _, choices := range last {
			next = append(next, choices+"0", choices+"1")
		}
		all, last = append(all, next...), next
	}
	var l []value.Value
	for _, choices := range all {
		l = append(l, choosing(choices))
	}
	wantAll(t, l)
	slices.Sort(all)
	slices.SortFunc(l, eager.Cmp)
	for i, choices := range all {
		wantEqual(t, l[i], choosing(choices))
	}
}

// drawn is a value of about that size, which few bytes and kinds make like
// others.
func drawn(r *rand.Rand, size int) value.Value {
	if size < 2 {
		return []value.Value{empty(), letter('a'), letter('b'), star(), {Kind: 9}, concat(), right(), left()}[r.Intn(8)]
	}
	half := func() value.Value { return drawn(r, size/2) }
	switch r.Intn(8) {
	case 0, 1, 2:
		return concat(half(), half())
	case 3:
		return left(drawn(r, size-1))
	case 4:
		return right(drawn(r, size-1))
	case 5:
		return group(drawn(r, size-1))
	case 6:
		return value.Value{Kind: r.Intn(9), L: []value.Value{half(), half()}}
	}
	v := star()
	for range r.Intn(5) {
		v.L = append(v.L, drawn(r, size/3))
	}
	return v
}

// changed is v with one of the values in it changed.
func changed(r *rand.Rand, v value.Value) value.Value {
	v = clone(v)
	at := &v
	for len(at.L) > 0 && r.Intn(5) > 0 {
		at = &at.L[r.Intn(len(at.L))]
	}
	switch r.Intn(5) {
	case 0:
		at.Kind = 3 + r.Intn(5)
	case 1:
		at.B++
	case 2:
		at.L = append(at.L, drawn(r, 2))
	case 3:
		at.L = at.L[:len(at.L)/2]
	case 4:
		*at = drawn(r, 4)
	}
	return v
}

// TestDrawnValues asks of larger values, and of those that differ from them at
// one place or two.
func TestDrawnValues(t *testing.T) {
	r := rand.New(rand.NewSource(13))
	told, prefixes := map[int]int{}, 0
	for range 20000 {
		v := drawn(r, 1+r.Intn(40))
		w := changed(r, v)
		wantAll(t, []value.Value{v, w, changed(r, w), changed(r, v), drawn(r, 10)})
		told[eager.Cmp(v, w)]++
		if eager.Apart(v, w) == min(len(modelChoices(v)), len(modelChoices(w))) {
			prefixes++
		}
	}
	if told[-1] < 3000 || told[0] < 500 || told[1] < 3000 || len(told) != 3 || prefixes < 300 {
		t.Errorf("Cmp answers %v, and %d are prefixes", told, prefixes)
	}
}

// TestDrawnLists asks for the best one of lists of each length, in which values
// stand more than once.
func TestDrawnLists(t *testing.T) {
	r := rand.New(rand.NewSource(31))
	for n := 1; n < 300; n++ {
		few := []value.Value{drawn(r, 6), drawn(r, 6), drawn(r, 6), drawn(r, 6)}
		var many, again []value.Value
		for range n {
			many = append(many, drawn(r, 1+r.Intn(12)))
			again = append(again, few[r.Intn(len(few))])
		}
		wantBest(t, many, modelBest(many))
		wantBest(t, again, modelBest(again))
	}
}

// TestModel asks the model what the chapter has as an example, and one case of
// each of its sentences.
func TestModel(t *testing.T) {
	a, ab := letter('a'), concat(letter('a'), letter('b'))
	for _, x := range []struct {
		v, w  value.Value
		apart int
	}{
		{left(a), right(ab), 0},
		{star(a), star(), 0},
		{star(ab, right(a)), star(a), 1},
		{group(left(left(a))), concat(left(a), right(a)), 1},
		{a, left(a), 0},
		{left(a), left(ab, right(a)), -1},
		{right(a), star(), -1},
		{right(a), concat(right(a), star()), 1},
	} {
		v, w := modelChoices(x.v), modelChoices(x.w)
		order := -1
		if x.apart == -1 {
			order = 0
		}
		if modelCmp(v, w) != order || modelCmp(w, v) != -order || modelApart(v, w) != x.apart || modelApart(w, v) != x.apart {
			t.Errorf("%s and %s: %d, %d", show(x.v), show(x.w), modelCmp(v, w), modelApart(v, w))
		}
	}
}
