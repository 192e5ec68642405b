package rank_test

import (
	"slices"
	"strings"
	"sync"
	"testing"

	"catchpole/api"
	"catchpole/rank"
	"catchpole/value"
)

// levels are as many as are promised, but for one.
const levels = 1<<16 - 1

// chain is v within that many values of that kind, alone in each.
func chain(kind, times int, v value.Value) value.Value {
	for range times {
		v = value.Value{Kind: kind, L: []value.Value{v}}
	}
	return v
}

// TestDeepValues asks of as many levels as are promised.
func TestDeepValues(t *testing.T) {
	for kind := 3; kind <= 7; kind++ {
		v := chain(kind, levels, letter('a'))
		wantCmp(t, v, chain(kind, levels, letter('a')), 0)
		wantCmp(t, v, chain(kind, levels, letter('b')), -1)
		wantCmp(t, v, chain(kind, levels, empty()), -1)
		wantCmp(t, v, chain(kind, levels, concat(letter('a'), empty())), -1)
		wantCmp(t, v, chain(kind, levels-1, letter('a')), 1)
		wantCmp(t, v, chain(kind, levels-1, group(group(letter('a')))), -1)
		wantCmp(t, v, letter('b'), 1)
		wantCmp(t, v, letters("bb"), 1)
	}
	wantCmp(t, chain(4, levels, empty()), chain(5, levels, letter('a')), 1)
	wantCmp(t, chain(4, levels, letter('b')), chain(5, levels, letter('a')), -1)
}

// TestDeepConcatenations asks of concatenations within concatenations, to the
// right and to the left, that differ in the innermost one: the bytes would be
// counted once a level by one who asks for the Len of each element.
func TestDeepConcatenations(t *testing.T) {
	comb := func(last value.Value, rightward bool) value.Value {
		for range levels - 1 {
			if rightward {
				last = concat(letter('b'), last)
			} else {
				last = concat(last, letter('b'))
			}
		}
		return last
	}
	for _, rightward := range []bool{false, true} {
		v := comb(letter('a'), rightward)
		wantCmp(t, v, comb(letter('a'), rightward), 0)
		wantCmp(t, v, comb(letter('b'), rightward), -1)
		wantCmp(t, v, comb(group(letter('a')), rightward), -1)
		wantCmp(t, v, comb(letters("aa"), rightward), 1)
		wantCmp(t, v, comb(empty(), rightward), -1)
	}
	wantCmp(t, comb(letter('b'), true), comb(letter('b'), false), 1)
}

// TestStarsWithinStars asks of many bytes under very many stars, of which the
// last ones differ.
func TestStarsWithinStars(t *testing.T) {
	const count = 500000
	v, other, more := letters(strings.Repeat("a", count)), letters(strings.Repeat("a", count-1)+"b"), letters(strings.Repeat("a", count))
	more.L = append(more.L, star())
	for range levels - 1 {
		v, other, more = star(v), star(other), star(more)
	}
	wantCmp(t, v, v, 0)
	wantCmp(t, v, other, -1)
	wantCmp(t, more, v, -1)
	wantCmp(t, star(v.L[0], star()), more, 1)
}

func TestWideValues(t *testing.T) {
	const count = 1000000
	v := letters(strings.Repeat("ab", count/2))
	for _, at := range []int{0, 1, count / 2, count - 2, count - 1} {
		other := star(slices.Clone(v.L)...)
		other.L[at] = letter('c')
		wantCmp(t, v, other, -1)
		other.L[at] = empty()
		wantCmp(t, v, other, -1)
		other.L[at] = letters("ab")
		wantCmp(t, v, other, 1)
	}
	wantCmp(t, v, star(slices.Clone(v.L)...), 0)
	wantCmp(t, v, star(v.L[:count-1]...), -1)
	empties := slices.Repeat([]value.Value{empty()}, count)
	wantCmp(t, star(empties...), star(empties[1:]...), -1)
	wantCmp(t, concat(star(empties...), empty()), concat(star(empties[1:]...), empty()), -1)
	for _, kind := range append(unknown(), 1, 2, 3, 4, 5, 7) {
		wantCmp(t, value.Value{Kind: kind, L: v.L}, value.Value{Kind: kind, L: v.L[:2]}, 0)
	}
}

// TestManyValues asks for the best one of very many, at different places, which
// is itself a very large one: it would be gone through once for each of them by
// one who holds the best one so far against the next.
func TestManyValues(t *testing.T) {
	const count = 1 << 19
	a := letter('a')
	large := star(star(slices.Repeat([]value.Value{empty()}, count)...), a)
	// Those of the same length, whose first elements differ late or in what they
	// are.
	small := []value.Value{star(star(), a), star(group(), a), star(star(empty()), a), star(star(empty(), star()), a)}
	l := slices.Repeat(small, count/len(small))
	for _, at := range []int{0, 1, count / 2, count - 1} {
		all := slices.Clone(l)
		all[at] = large
		wantBest(t, all, at)
	}
	wantBest(t, l, 3)
	wantBest(t, slices.Repeat([]value.Value{star(empty())}, count), 0)
	wantBest(t, slices.Repeat([]value.Value{letters(strings.Repeat("a", api.MaxInput))}, 1<<14), 0)
}

// TestSharedElements asks of values whose elements are the same ones, which
// count as often as they stand there; and of those that do not count, which
// nobody goes through.
func TestSharedElements(t *testing.T) {
	v, w := letter('a'), letter('b')
	for range 15 {
		v, w = star(v, v), star(w, w)
	}
	wantCmp(t, v, v, 0)
	wantCmp(t, v, w, -1)
	wantCmp(t, star(v, w), star(w, v), -1)
	huge := v
	for range 200 {
		huge = star(huge, huge)
	}
	a, e := letter('a'), empty()
	for _, kind := range append(unknown(), 1) {
		wantCmp(t, value.Value{Kind: kind, L: []value.Value{huge, huge}}, value.Value{Kind: kind}, 0)
		wantCmp(t, value.Value{Kind: kind, L: []value.Value{huge}}, a, 1)
	}
	wantCmp(t, value.Value{Kind: 2, B: 'a', L: []value.Value{huge}}, a, 0)
	wantCmp(t, value.Value{Kind: 2, B: 'a', L: []value.Value{huge}}, left(a, huge), -1)
	wantCmp(t, concat(a, e, huge), concat(a, e), 0)
	wantCmp(t, left(a, huge), right(a, huge, huge), -1)
	wantCmp(t, group(a, huge), group(e, huge), -1)
}

// mark stands in spare capacity.
func mark() value.Value {
	return value.Value{Kind: 2, B: 42, L: []value.Value{{Kind: 43}}}
}

// roomy is v with spare capacity in each list, in which a mark stands.
func roomy(v value.Value) value.Value {
	v.L = roomyList(v.L)
	return v
}

// roomyList is l with spare capacity, of its values also.
func roomyList(l []value.Value) []value.Value {
	all := make([]value.Value, len(l), len(l)+2)
	for i, x := range l {
		all[i] = roomy(x)
	}
	for i := len(all); i < cap(all); i++ {
		all[:cap(all)][i] = mark()
	}
	return all
}

// intact tells whether l has what roomyList put into its capacity.
func intact(l []value.Value) bool {
	for i, x := range l[:cap(l)] {
		if i < len(l) && !intact(x.L) || i >= len(l) && !value.Same(x, mark()) {
			return false
		}
	}
	return true
}

// TestMemory asks R4 and R5: what is passed is not changed, nor its spare
// capacity, which is not looked at; and calls answer the same again.
func TestMemory(t *testing.T) {
	given := slices.Concat(formed(3)...)
	l := roomyList(given)
	for range 2 {
		wantAll(t, l)
		wantBest(t, l, modelBest(given))
	}
	if !intact(l) {
		t.Errorf("spare capacity was changed")
	}
	for i, v := range l {
		if !value.Same(v, given[i]) {
			t.Errorf("%s became %s", show(given[i]), show(v))
		}
	}
}

// TestAtTheSameTime asks R5 of calls with the same values in several goroutines.
func TestAtTheSameTime(t *testing.T) {
	l := slices.Concat(formed(3)...)
	keys, best := modelKeys(l), modelBest(l)
	var workers sync.WaitGroup
	for range 8 {
		workers.Go(func() {
			for i, v := range l {
				for j, w := range l {
					if rank.Cmp(v, w) != slices.Compare(keys[i], keys[j]) {
						t.Errorf("Cmp of %s and %s: %d", show(v), show(w), rank.Cmp(v, w))
					}
				}
			}
			wantBest(t, l, best)
		})
	}
	workers.Wait()
}
