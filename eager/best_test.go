package eager_test

import (
	"slices"
	"testing"

	"catchpole/eager"
	"catchpole/value"
)

// wantBest asks for the index of the best value of l.
func wantBest(t *testing.T, l []value.Value, want int) {
	t.Helper()
	if got, ok := eager.Best(l); !ok || got != want {
		t.Errorf("Best of %d values: %d, %v, want %d", len(l), got, ok, want)
	}
}

func TestBestOfNone(t *testing.T) {
	for _, l := range [][]value.Value{nil, {}, make([]value.Value, 0, 8), []value.Value{left(letter('a'))}[:0]} {
		if got, ok := eager.Best(l); got != 0 || ok {
			t.Errorf("Best of no value: %d, %v", got, ok)
		}
	}
}

func TestBestOfOne(t *testing.T) {
	for _, v := range []value.Value{{}, {Kind: -1}, empty(), letter(0), star(), left(), right(star()), concat(), group(letters("ab"))} {
		wantBest(t, []value.Value{v}, 0)
	}
}

// orders yields each order of the numbers below n.
func orders(n int, yield func([]int)) {
	order := make([]int, n)
	for i := range order {
		order[i] = i
	}
	var swap func(int)
	swap = func(at int) {
		if at == n {
			yield(order)
			return
		}
		for i := at; i < n; i++ {
			order[at], order[i] = order[i], order[at]
			swap(at + 1)
			order[at], order[i] = order[i], order[at]
		}
	}
	swap(0)
}

// TestBestInEachOrder asks of the same values in each order, some of which have
// the same choices: the first one of the best ones is told.
func TestBestInEachOrder(t *testing.T) {
	a, b := letter('a'), letter('b')
	ascending := []value.Value{concat(a, b), left(right(a)), star(b), concat(left(a), right(star())), right(left(a)), right(right(b)), star(right(a), a)}
	slices.SortFunc(ascending, eager.Cmp)
	if eager.Cmp(ascending[0], ascending[1]) != -1 {
		t.Fatalf("%s does not precede %s", show(ascending[0]), show(ascending[1]))
	}
	orders(len(ascending), func(order []int) {
		var l []value.Value
		for _, i := range order {
			l = append(l, ascending[i])
		}
		wantBest(t, l, slices.Index(order, 0))
	})
	// Three of the best ones, whose bytes and kinds differ.
	equal := []value.Value{star(a), left(right(b)), concat(left(a), star()), left(right(left(a))), right(left(a)), right(b), star()}
	orders(len(equal), func(order []int) {
		var l []value.Value
		for _, i := range order {
			l = append(l, equal[i])
		}
		wantBest(t, l, slices.IndexFunc(order, func(i int) bool { return i < 3 }))
	})
}

// TestBestAtEachPlace asks of the best value at each place of lists of each
// length, alone and with another one behind it or ahead of it.
func TestBestAtEachPlace(t *testing.T) {
	best := left(left(letter('b')))
	worse := []value.Value{left(left(left(letter('a')))), left(right(letter('a'))), star(letter('a')), right(letter('a')), star(), star(right(letter('a')))}
	for n := 1; n < 40; n++ {
		for at := range n {
			var l []value.Value
			for i := range n {
				l = append(l, worse[(i*i+at)%len(worse)])
			}
			l[at] = best
			wantBest(t, l, at)
			for second := range n {
				again := slices.Clone(l)
				again[second] = concat(left(letter('c')), left(empty()))
				wantBest(t, again, min(at, second))
			}
		}
		wantBest(t, slices.Repeat([]value.Value{letters("ab")}, n), 0)
	}
}

// TestBestWithinAList asks that nothing but the list is looked at, nor what is
// in the capacity behind it.
func TestBestWithinAList(t *testing.T) {
	l := []value.Value{empty(), right(letter('a')), star(right(letter('a'))), left(letter('a')), letter('b')}
	wantBest(t, l, 0)
	wantBest(t, l[1:], 3)
	wantBest(t, l[1:3], 1)
	wantBest(t, l[2:4], 1)
	wantBest(t, l[1:4], 2)
	wantBest(t, l[1:2], 0)
}

// TestBestOfPrefixes asks of choices of which each is a prefix of the next: the
// shortest precede.
func TestBestOfPrefixes(t *testing.T) {
	for _, part := range []string{"0", "1", "01", "10", "110"} {
		var l []value.Value
		choices := ""
		for range 20 {
			l = append(l, choosing(choices))
			choices += part
		}
		wantAscending(t, l...)
		wantBest(t, l, 0)
		slices.Reverse(l)
		wantBest(t, l, len(l)-1)
	}
}
