package caps_test

import (
	"fmt"
	"math/rand"
	"slices"
	"testing"

	"catchpole/api"
	"catchpole/caps"
	"catchpole/core"
	"catchpole/value"
)

// What a part of a value last did to a group.
const (
	leaves = iota
	sets
	unsets
)

// modelSpans are the spans of v, a value of c, as the chapter tells them: one
// group at a time, by what was last done to it.
func modelSpans(c core.Core, v value.Value, at, groups int) []caps.Span {
	l := []caps.Span{{From: at, To: at + value.Len(v)}}
	for n := range groups {
		did, s := modelLast(c, v, at, n+1)
		if did != sets {
			s = caps.Span{From: -1, To: -1}
		}
		l = append(l, s)
	}
	return l
}

// modelLast is what v, a value of c at the offset at, last did to the group n,
// and its span if it was set. It looks from the end.
func modelLast(c core.Core, v value.Value, at, n int) (int, caps.Span) {
	switch c.Kind {
	case 3:
		if did, s := modelLast(c.L[1], v.L[1], at+value.Len(v.L[0]), n); did != leaves {
			return did, s
		}
		return modelLast(c.L[0], v.L[0], at, n)
	case 4:
		return modelLast(c.L[v.Kind-4], v.L[0], at, n)
	case 5:
		if len(v.L) == 0 {
			return leaves, caps.Span{}
		}
		// The beginning of the last iteration hides what those before it did.
		last := v.L[len(v.L)-1]
		return modelFresh(c.L[0], last, at+value.Len(v)-value.Len(last), n)
	case 6:
		if c.N == n {
			return sets, caps.Span{From: at, To: at + value.Len(v)}
		}
		return modelLast(c.L[0], v.L[0], at, n)
	case 7:
		return modelFresh(c.L[0], v, at, n)
	}
	return leaves, caps.Span{}
}

// modelFresh is as modelLast, where the groups of c are unset first.
func modelFresh(c core.Core, v value.Value, at, n int) (int, caps.Span) {
	did, s := modelLast(c, v, at, n)
	if did == leaves && has(c, n) {
		did = unsets
	}
	return did, s
}

// has tells whether c has a group n.
func has(c core.Core, n int) bool {
	return c.Kind == 6 && c.N == n || slices.ContainsFunc(c.L, func(x core.Core) bool { return has(x, n) })
}

// wantModel asks for the spans that the model has.
func wantModel(t *testing.T, c core.Core, v value.Value, at, groups int) {
	t.Helper()
	wantSpans(t, c, v, at, modelSpans(c, v, at, groups))
}

// values makes the values of cores of a size, each list of them once.
type values struct{ made map[string][]value.Value }

// of are the values of c, which is valid, of exactly that size.
func (m *values) of(c core.Core, size int) []value.Value {
	key := fmt.Sprint(size, core.Text(c))
	if _, ok := m.made[key]; !ok {
		m.made[key] = m.make(c, size)
	}
	return m.made[key]
}

// make makes what of returns.
func (m *values) make(c core.Core, size int) []value.Value {
	var all []value.Value
	switch {
	case size < 1:
	case c.Kind == 1 && size == 1:
		all = append(all, empty())
	case c.Kind == 2 && size == 1:
		for _, b := range c.Set.List() {
			all = append(all, letter(b))
		}
	case c.Kind == 3:
		for first := 1; first < size-1; first++ {
			for _, x := range m.of(c.L[0], first) {
				for _, y := range m.of(c.L[1], size-1-first) {
					all = append(all, concat(x, y))
				}
			}
		}
	case c.Kind == 4:
		for _, x := range m.of(c.L[0], size-1) {
			all = append(all, left(x))
		}
		for _, x := range m.of(c.L[1], size-1) {
			all = append(all, right(x))
		}
	case c.Kind == 5 && size == 1:
		all = append(all, star())
	case c.Kind == 5:
		for first := 1; first < size; first++ {
			for _, x := range m.of(c.L[0], first) {
				for _, y := range m.of(c, size-first) {
					all = append(all, star(append([]value.Value{x}, y.L...)...))
				}
			}
		}
	case c.Kind == 6:
		for _, x := range m.of(c.L[0], size-1) {
			all = append(all, group(x))
		}
	case c.Kind == 7:
		all = m.of(c.L[0], size)
	}
	return all
}

// smallCores are the cores of each size up to that one, with two groups, which
// may have the same number.
func smallCores(most int) [][]core.Core {
	all := [][]core.Core{nil, {coreEmpty(), coreSet("a")}}
	for size := 2; size <= most; size++ {
		var l []core.Core
		for _, c := range all[size-1] {
			l = append(l, coreStar(c), coreGroup(1, c), coreGroup(2, c), coreRenewal(c))
		}
		for first := 1; first < size-1; first++ {
			for _, a := range all[first] {
				for _, b := range all[size-1-first] {
					l = append(l, coreConcat(a, b), coreAlternative(a, b))
				}
			}
		}
		all = append(all, l)
	}
	return all
}

// TestAllSmallValues asks of all small values of all small cores.
func TestAllSmallValues(t *testing.T) {
	m := values{map[string][]value.Value{}}
	asked := 0
	for _, l := range smallCores(5) {
		for i, c := range l {
			for size := range 8 {
				for _, v := range m.of(c, size) {
					wantModel(t, c, v, i, 2)
					asked++
				}
			}
		}
	}
	if asked < 10000 {
		t.Errorf("only %d values", asked)
	}
}

// TestStarsOfSmallCores asks of each small core within what unsets its groups,
// behind what sets them, and before that.
func TestStarsOfSmallCores(t *testing.T) {
	m := values{map[string][]value.Value{}}
	set := coreConcat(coreGroup(1, coreSet("b")), coreGroup(2, coreEmpty()))
	done := concat(group(letter('b')), group(empty()))
	for _, l := range smallCores(4) {
		for _, c := range l {
			for size := range 7 {
				for _, v := range m.of(c, size) {
					wantModel(t, coreConcat(set, c), concat(done, v), 1, 3)
					wantModel(t, coreConcat(c, set), concat(v, done), 2, 2)
					wantModel(t, coreConcat(set, coreRenewal(c)), concat(done, v), 3, 2)
					wantModel(t, coreConcat(set, coreStar(c)), concat(done, star(v)), 4, 2)
					wantModel(t, coreConcat(set, coreStar(c)), concat(done, star()), 5, 1)
					wantModel(t, coreStar(coreAlternative(c, set)), star(left(v), right(done), left(v)), 6, 2)
					wantModel(t, coreStar(coreAlternative(c, set)), star(right(done), left(v)), 7, 2)
					wantModel(t, coreGroup(3, coreConcat(set, coreRenewal(coreGroup(1, c)))), group(concat(done, group(v))), 8, 3)
				}
			}
		}
	}
}

// drawnMatch is a core of about that size, and a value of it.
func drawnMatch(r *rand.Rand, size int) (core.Core, value.Value) {
	if size < 2 {
		if r.Intn(4) == 0 {
			return coreEmpty(), empty()
		}
		text := []string{"a", "b", "abc", "\x00\xff"}[r.Intn(4)]
		return coreSet(text), letter(text[r.Intn(len(text))])
	}
	half := func() (core.Core, value.Value) { return drawnMatch(r, size/2) }
	c, v := drawnMatch(r, size-1)
	switch r.Intn(9) {
	case 0, 1:
		a, x := half()
		b, y := half()
		return coreConcat(a, b), concat(x, y)
	case 2:
		a, x := half()
		b, _ := half()
		return coreAlternative(a, b), left(x)
	case 3:
		a, _ := half()
		b, y := half()
		return coreAlternative(a, b), right(y)
	case 4:
		return drawnStar(r, size)
	case 5, 6, 7:
		most := []int{3, 8, api.MaxGroups}[r.Intn(3)]
		return coreGroup(1+r.Intn(most), c), group(v)
	}
	return coreRenewal(c), v
}

// drawnStar is a star of an alternative of several cores, each of which any
// iteration may take, or of one.
func drawnStar(r *rand.Rand, size int) (core.Core, value.Value) {
	c, v := drawnMatch(r, size-1)
	ways := []value.Value{v}
	for range r.Intn(3) {
		next, x := drawnMatch(r, size/2)
		for i := range ways {
			ways[i] = left(ways[i])
		}
		c, ways = coreAlternative(c, next), append(ways, right(x))
	}
	all := star()
	for range r.Intn(5) {
		all.L = append(all.L, ways[r.Intn(len(ways))])
	}
	return coreStar(c), all
}

// TestDrawnValues asks of larger cores with values of them.
func TestDrawnValues(t *testing.T) {
	r := rand.New(rand.NewSource(12))
	set, unsetAfter := 0, 0
	for range 30000 {
		c, v := drawnMatch(r, 1+r.Intn(18))
		if !value.Good(c, v) {
			t.Fatalf("%s is no value of %s", cut(value.Text(v)), show(c))
		}
		at, groups := r.Intn(1<<30+1), r.Intn(api.MaxGroups+1)
		wantModel(t, c, v, at, groups)
		for n := range groups {
			switch did, _ := modelLast(c, v, at, n+1); did {
			case sets:
				set++
			case unsets:
				unsetAfter++
			}
		}
	}
	if set < 5000 || unsetAfter < 5000 {
		t.Errorf("%d groups are set, and %d unset again", set, unsetAfter)
	}
}

// TestModel asks the model what the chapter has as an example, and of a group
// that is unset.
func TestModel(t *testing.T) {
	c := coreAlternative(coreGroup(1, coreSet("a")), coreSet("b"))
	yes, no := left(group(letter('a'))), right(letter('b'))
	for _, x := range []struct {
		c    core.Core
		v    value.Value
		want string
	}{
		{c, no, "(0,1) -"},
		{c, yes, "(0,1) (0,1)"},
		{coreStar(c), star(yes, no), "(0,2) -"},
		{coreStar(c), star(no, yes), "(0,2) (1,2)"},
		{coreConcat(c, c), concat(yes, no), "(0,2) (0,1)"},
		{coreConcat(c, coreRenewal(c)), concat(yes, no), "(0,2) -"},
	} {
		if got := modelSpans(x.c, x.v, 0, 1); !slices.Equal(got, spansOf(t, x.want)) {
			t.Errorf("%s and %s: %v, want %s", show(x.c), value.Text(x.v), got, x.want)
		}
	}
}
