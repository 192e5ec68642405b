package eager_test

import (
	"slices"
	"strings"
	"sync"
	"testing"

	"catchpole/api"
	"catchpole/eager"
	"catchpole/value"
)

// levels are as many as are promised, but for one.
const levels = 1<<16 - 1

// chain is v within that many values of that kind, alone in each.
func chain(kind, times int, v value.Value) value.Value {
	for range times {
		v = value.Value{Kind: kind, L: []value.Value{v}}
	}
	return v
}

// TestDeepValues asks of as many levels as are promised.
func TestDeepValues(t *testing.T) {
	yes, no := left(letter('a')), right(letter('b'))
	for _, x := range []struct{ kind, apart, order, apartFromFewer int }{
		{3, 0, 0, -1},
		{4, levels, 1, levels},
		{5, levels, 1, levels - 1},
		{6, levels, -1, levels},
		{7, 0, 0, -1},
	} {
		v := chain(x.kind, levels, yes)
		wantEqual(t, v, chain(x.kind, levels, left(letter('b'))))
		wantOrder(t, v, chain(x.kind, levels, no), -1, x.apart)
		wantOrder(t, v, chain(x.kind, levels-1, yes), x.order, x.apartFromFewer)
	}
	wantEqual(t, chain(0, levels, yes), chain(8, levels, no))
	wantOrder(t, chain(4, levels, no), chain(6, levels, yes), 1, levels)
	wantOrder(t, chain(4, levels, no), chain(5, levels, yes), -1, 0)
}

// TestDeepConcatenations asks of concatenations within concatenations, to the
// right and to the left.
func TestDeepConcatenations(t *testing.T) {
	comb := func(last value.Value, rightward bool) value.Value {
		for range levels - 1 {
			if rightward {
				last = concat(right(letter('b')), last)
			} else {
				last = concat(last, right(letter('b')))
			}
		}
		return last
	}
	for rightward, apart := range map[bool]int{true: levels - 1, false: 0} {
		v := comb(left(letter('a')), rightward)
		wantEqual(t, v, comb(left(empty()), rightward))
		wantOrder(t, v, comb(right(letter('a')), rightward), -1, apart)
	}
	wantOrder(t, comb(empty(), true), comb(right(empty()), false), -1, levels-1)
	wantOrder(t, comb(left(empty()), true), comb(left(empty()), false), 1, 0)
}

// TestWideValues asks of many elements, which count for a star alone.
func TestWideValues(t *testing.T) {
	const count = 1000000
	v := star(slices.Repeat([]value.Value{left(letter('a')), letter('b')}, count/2)...)
	for _, at := range []int{0, 2, count / 2, count - 2} {
		other := star(slices.Clone(v.L)...)
		other.L[at] = right(letter('a'))
		wantOrder(t, v, other, -1, at/2*3+1)
		other.L[at] = left(letter('c'))
		wantEqual(t, v, other)
		wantOrder(t, v, star(v.L[:at]...), -1, at/2*3)
	}
	wantOrder(t, v, letters(strings.Repeat("a", count)), -1, count)
	wantOrder(t, letters(strings.Repeat("a", count)), letters(strings.Repeat("b", count-1)), -1, count-1)
	wantOrder(t, choosing(strings.Repeat("1", levels)), choosing(strings.Repeat("1", levels-1)), 1, levels-1)
	for _, kind := range append(unknown(), 1, 2, 3, 4, 5, 7) {
		wantEqual(t, value.Value{Kind: kind, L: v.L}, value.Value{Kind: kind, L: v.L[:2]})
	}
}

// TestManyValues asks for the best one of very many, at different places, which
// has very many choices: it would be gone through once for each of them by one
// who asks anew for the choices of the best one so far.
func TestManyValues(t *testing.T) {
	const count = 1 << 19
	large := letters(strings.Repeat("a", count))
	small := []value.Value{letters("aa"), star(right(letter('a'))), right(large.L[0]), left(right(empty())), star()}
	l := slices.Repeat(small, count/len(small))
	for _, at := range []int{0, 1, count / 2, len(l) - 1} {
		all := slices.Clone(l)
		all[at] = large
		wantBest(t, all, at)
	}
	wantBest(t, l, 0)
	wantBest(t, l[1:], 4)
	wantBest(t, slices.Repeat([]value.Value{star(empty())}, count), 0)
	wantBest(t, slices.Repeat([]value.Value{letters(strings.Repeat("a", api.MaxInput))}, 1<<14), 0)
}

// TestSharedElements asks of values whose elements are the same ones, which
// count as often as they stand there; and of those that do not count, which
// nobody goes through.
func TestSharedElements(t *testing.T) {
	v, w := left(letter('a')), right(letter('a'))
	for range 15 {
		v, w = star(v, v), star(w, w)
	}
	wantEqual(t, v, v)
	wantOrder(t, v, w, -1, 15)
	wantOrder(t, concat(v, w), concat(w, v), -1, 15)
	wantOrder(t, concat(v, v), concat(v, w), -1, len(modelChoices(v))+15)
	huge := v
	for range 200 {
		huge = star(huge, huge)
	}
	a, e := letter('a'), empty()
	for _, kind := range append(unknown(), 1, 2) {
		wantEqual(t, value.Value{Kind: kind, L: []value.Value{huge, huge}}, value.Value{Kind: kind})
		wantOrder(t, value.Value{Kind: kind, L: []value.Value{huge}}, left(a), -1, 0)
	}
	wantEqual(t, concat(a, e, huge), concat(a, e))
	wantOrder(t, left(a, huge), right(a, huge, huge), -1, 0)
	wantEqual(t, group(a, huge), group(e, huge))
}

// mark stands in spare capacity.
func mark() value.Value {
	return value.Value{Kind: 5, B: 42, L: []value.Value{{Kind: 43}}}
}

// roomy is v with spare capacity in each list, in which a mark stands.
func roomy(v value.Value) value.Value {
	v.L = roomyList(v.L)
	return v
}

// roomyList is l with spare capacity, of its values also.
func roomyList(l []value.Value) []value.Value {
	all := make([]value.Value, len(l), len(l)+2)
	for i, x := range l {
		all[i] = roomy(x)
	}
	for i := len(all); i < cap(all); i++ {
		all[:cap(all)][i] = mark()
	}
	return all
}

// intact tells whether l has what roomyList put into its capacity.
func intact(l []value.Value) bool {
	for i, x := range l[:cap(l)] {
		if i < len(l) && !intact(x.L) || i >= len(l) && !value.Same(x, mark()) {
			return false
		}
	}
	return true
}

// TestMemory asks R4 and R5: what is passed is not changed, nor its spare
// capacity, which is not looked at; and calls answer the same again.
func TestMemory(t *testing.T) {
	given := slices.Concat(arbitrary(2)...)
	l := roomyList(given)
	for range 2 {
		wantAll(t, l)
		wantBest(t, l, modelBest(given))
	}
	if !intact(l) {
		t.Errorf("spare capacity was changed")
	}
	for i, v := range l {
		if !value.Same(v, given[i]) {
			t.Errorf("%s became %s", show(given[i]), show(v))
		}
	}
}

// TestAtTheSameTime asks R5 of calls with the same values in several goroutines.
func TestAtTheSameTime(t *testing.T) {
	l := slices.Concat(arbitrary(2)...)
	choices, best := modelAll(l), modelBest(l)
	var workers sync.WaitGroup
	for range 8 {
		workers.Go(func() {
			for i, v := range l {
				for j, w := range l {
					if eager.Cmp(v, w) != modelCmp(choices[i], choices[j]) || eager.Apart(v, w) != modelApart(choices[i], choices[j]) {
						t.Errorf("%s and %s: %d, %d", show(v), show(w), eager.Cmp(v, w), eager.Apart(v, w))
					}
				}
			}
			wantBest(t, l, best)
		})
	}
	workers.Wait()
}
