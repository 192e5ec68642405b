package value_test

import (
	"math"
	"slices"
	"strings"
	"testing"

	"catchpole/api"
	"catchpole/core"
	"catchpole/value"
)

// chain is v within that many values of that kind, alone in each.
func chain(kind, times int, v value.Value) value.Value {
	for range times {
		v = value.Value{Kind: kind, L: []value.Value{v}}
	}
	return v
}

// TestDeepValues asks of as many levels as are promised.
func TestDeepValues(t *testing.T) {
	const levels = 1<<16 - 1
	before, after := []string{"", "", "", "(", "L", "R", "[", "<"}, []string{"", "", "", ",)", "", "", "]", ">"}
	for kind := 3; kind <= 7; kind++ {
		v := chain(kind, levels, letter('a'))
		wantText := strings.Repeat(before[kind], levels) + "61" + strings.Repeat(after[kind], levels)
		if got := value.Text(v); got != wantText {
			t.Errorf("kind %d: Text of %d bytes, want %d", kind, len(got), len(wantText))
		}
		if flat, length, size := value.Flat(v), value.Len(v), value.Size(v); string(flat) != "a" || length != 1 || size != levels+1 {
			t.Errorf("kind %d: Flat, Len and Size are %q, %d and %d", kind, flat, length, size)
		}
		wantSame(t, true, v, chain(kind, levels, letter('a')))
		wantSame(t, false, v, chain(kind, levels, letter('b')))
		wantSame(t, false, v, chain(kind, levels-1, letter('a')))
		if value.Good(coreStar(coreSet("a")), v) || value.Full(coreStar(coreSet("a")), v) {
			t.Errorf("kind %d: a deep value is one of a star", kind)
		}
	}
	rightmost, leftmost := letter('a'), letter('a')
	for range levels {
		rightmost, leftmost = concat(letter('b'), rightmost), concat(leftmost, letter('b'))
	}
	bs := strings.Repeat("b", levels)
	if string(value.Flat(rightmost)) != bs+"a" || string(value.Flat(leftmost)) != "a"+bs {
		t.Errorf("Flat of deep concatenations has its bytes in another order")
	}
	if value.Len(rightmost) != levels+1 || value.Size(leftmost) != 2*levels+1 {
		t.Errorf("Len and Size of deep concatenations: %d and %d", value.Len(rightmost), value.Size(leftmost))
	}
	if got := value.Text(leftmost); got != strings.Repeat("(", levels)+"61"+strings.Repeat(",62)", levels) {
		t.Errorf("Text of a deep concatenation: %d bytes", len(got))
	}
}

// TestDeepCores asks of cores of MaxCore parts and of one more, in one chain.
func TestDeepCores(t *testing.T) {
	for _, size := range []int{api.MaxCore - 1, api.MaxCore, api.MaxCore + 1, 4 * api.MaxCore, 65535} {
		stars, groups, renewals := coreSet("a"), coreSet("a"), coreSet("a")
		for i := range size - 1 {
			stars, groups, renewals = coreStar(stars), coreGroup(1+i%32, groups), coreRenewal(renewals)
		}
		good := size <= api.MaxCore
		wantMatch(t, match{stars, chain(6, size-1, letter('a'))}, good, good)
		wantMatch(t, match{stars, chain(6, size-2, star())}, good, false)
		wantMatch(t, match{stars, star()}, good, good)
		wantMatch(t, match{stars, chain(6, size, letter('a'))}, false, false)
		wantMatch(t, match{stars, chain(6, size-2, letter('a'))}, false, false)
		wantMatch(t, match{groups, chain(7, size-1, letter('a'))}, good, good)
		wantMatch(t, match{groups, chain(7, size, letter('a'))}, false, false)
		wantMatch(t, match{groups, chain(7, size-2, letter('a'))}, false, false)
		wantMatch(t, match{renewals, letter('a')}, good, good)
		wantMatch(t, match{renewals, group(letter('a'))}, false, false)
	}
	c, v := coreSet("a"), letter('a')
	for range (api.MaxCore - 1) / 2 {
		c, v = coreConcat(coreSet("b"), c), concat(letter('b'), v)
	}
	wantMatch(t, match{c, v}, true, true)
	wantMatch(t, match{coreRenewal(c), v}, true, true)
	wantMatch(t, match{coreRenewal(coreRenewal(c)), v}, false, false)
	wantMatch(t, match{coreConcat(c, coreEmpty()), concat(v, empty())}, false, false)
}

// TestStarsWithinStars asks of many bytes under many stars: each byte would be
// counted once a star by one who asks for the Len of each iteration.
func TestStarsWithinStars(t *testing.T) {
	c, v := coreStar(coreSet("a")), letters(strings.Repeat("a", 500000))
	for range api.MaxCore - 2 {
		c, v = coreStar(c), star(v)
	}
	wantMatch(t, match{c, v}, true, true)
	last := &v
	for range api.MaxCore - 3 {
		last = &last.L[0]
	}
	last.L = append(last.L, star())
	wantMatch(t, match{c, v}, true, false)
}

func TestWideValues(t *testing.T) {
	const count = 1000000
	text := strings.Repeat("ab", count/2)
	v := letters(text)
	c := coreStar(coreSet("ab"))
	wantMatch(t, match{c, v}, true, true)
	wantMatch(t, match{coreStar(coreSet("a")), v}, false, false)
	if string(value.Flat(v)) != text || value.Len(v) != count || value.Size(v) != count+1 {
		t.Errorf("Flat, Len and Size of a wide value: %d bytes, %d and %d", len(value.Flat(v)), value.Len(v), value.Size(v))
	}
	if want := "[" + strings.TrimSuffix(strings.Repeat("61,62,", count/2), ",") + "]"; value.Text(v) != want {
		t.Errorf("Text of a wide value: %d bytes, want %d", len(value.Text(v)), len(want))
	}
	other := clone(v)
	wantSame(t, true, v, other)
	other.L[count-1] = letter('c')
	wantSame(t, false, v, other)
	wantMatch(t, match{c, other}, false, false)
	other.L = other.L[:count-1]
	wantSame(t, false, v, other)
	wantMatch(t, match{c, other}, true, true)
	for kind := range 9 {
		other := value.Value{Kind: kind, L: v.L}
		if kind == 6 {
			continue
		}
		wantMatch(t, match{c, other}, false, false)
		if got, want := value.Size(other), 1+min(len(v.L), counts(kind)); got != want {
			t.Errorf("Size of a wide value of kind %d: %d, want %d", kind, got, want)
		}
	}
}

// TestSharedElements asks of values whose elements are the same ones, which
// counts them as often as they stand there; and of those that do not count,
// which nobody goes through.
func TestSharedElements(t *testing.T) {
	c, v := coreSet("a"), letter('a')
	for range 15 {
		c, v = coreStar(c), star(v, v)
	}
	wantMatch(t, match{c, v}, true, true)
	if value.Len(v) != 1<<15 || value.Size(v) != 1<<16-1 || string(value.Flat(v)) != strings.Repeat("a", 1<<15) {
		t.Errorf("Len and Size of shared elements: %d and %d", value.Len(v), value.Size(v))
	}
	for range 200 {
		v = star(v, v)
	}
	wantAll(t, value.Value{Kind: 1, L: []value.Value{v}}, "", "E", 1)
	wantAll(t, value.Value{Kind: 2, B: 'b', L: []value.Value{v, v}}, "b", "62", 1)
	wantAll(t, value.Value{Kind: 8, L: []value.Value{v, v}}, "", "?", 1)
	wantAll(t, concat(empty(), empty(), v), "", "(E,E)", 3)
	wantAll(t, left(empty(), v, v), "", "LE", 2)
	wantAll(t, right(empty(), v), "", "RE", 2)
	wantAll(t, group(empty(), v), "", "<E>", 2)
	for _, wrong := range []value.Value{{Kind: 1, L: []value.Value{v}}, {Kind: 2, B: 'a', L: []value.Value{v}}, group(empty(), v), {Kind: 9, L: []value.Value{v, v}}} {
		wantMatch(t, match{coreEmpty(), wrong}, false, false)
		wantMatch(t, match{coreSet("a"), wrong}, false, false)
		wantMatch(t, match{coreGroup(1, coreEmpty()), wrong}, false, false)
	}
}

// TestArbitraryValues asks R1: each call ends, whatever it is given.
func TestArbitraryValues(t *testing.T) {
	cores := wrongCores()
	for _, m := range append(matches(), deeply()) {
		cores = append(cores, m.c)
	}
	for _, kind := range append(unknown(), 1, 2, 3, 4, 5, 6, 7) {
		for _, b := range []byte{0, 1, 'a', 255} {
			for _, l := range [][]value.Value{nil, {{}}, {letter('a'), {Kind: kind, B: b}}, {rich(), rich(), rich()}, slices.Repeat([]value.Value{{Kind: kind}}, 1000), {chain(6, 1000, letter(b))}, {{Kind: math.MaxInt}, {Kind: math.MinInt}}} {
				v := value.Value{Kind: kind, B: b, L: l}
				wantModel(t, v)
				wantSame(t, true, v, clone(v))
				for _, c := range cores {
					if value.Full(c, v) && !value.Good(c, v) {
						t.Errorf("%s is full, but not good for %s", show(v), showCore(c))
					}
				}
			}
		}
	}
}

// mark stands in spare capacity.
func mark() value.Value {
	return value.Value{Kind: 42, B: 42, L: []value.Value{{Kind: 43}}}
}

// roomy is v with spare capacity in each list, in which a mark stands.
func roomy(v value.Value) value.Value {
	l := make([]value.Value, len(v.L), len(v.L)+2)
	for i, x := range v.L {
		l[i] = roomy(x)
	}
	for i := len(l); i < cap(l); i++ {
		l[:cap(l)][i] = mark()
	}
	v.L = l
	return v
}

// roomyCore is c with spare capacity in each list, in which a core stands.
func roomyCore(c core.Core) core.Core {
	l := make([]core.Core, len(c.L), len(c.L)+1)
	for i, x := range c.L {
		l[i] = roomyCore(x)
	}
	l[:cap(l)][len(l)] = coreSet("spare")
	c.L = l
	return c
}

// intact tells whether c is what roomyCore made.
func intact(c core.Core) bool {
	return core.Same(c.L[:cap(c.L)][len(c.L)], coreSet("spare")) && !slices.ContainsFunc(c.L, func(x core.Core) bool { return !intact(x) })
}

// overwrite puts another byte over l and its spare capacity.
func overwrite(l []byte) {
	for i := range l[:cap(l)] {
		l[:cap(l)][i] = '!'
	}
}

// TestMemory asks R4 and R5: what is passed is not changed, nor its spare
// capacity, and a list that is answered is a new one each time.
func TestMemory(t *testing.T) {
	all := append(matches(), deeply())
	for _, v := range variety() {
		all = append(all, match{coreStar(coreSet("a")), v})
	}
	for _, m := range all {
		c, v := roomyCore(m.c), roomy(m.v)
		good, full, text := value.Good(c, v), value.Full(c, v), value.Text(v)
		flat := value.Flat(v)
		want := slices.Clone(flat)
		other, third := value.Flat(v), value.Flat(v)
		overwrite(other)
		if !slices.Equal(flat, want) || !slices.Equal(third, want) || !slices.Equal(value.Flat(v), want) {
			t.Errorf("%s: an answer shares memory with another one", show(v))
		}
		value.Len(v)
		value.Size(v)
		value.Same(v, v)
		if value.Good(c, v) != good || value.Full(c, v) != full || value.Text(v) != text {
			t.Errorf("%s: other answers than before", show(v))
		}
		if !equal(v, m.v) || !core.Same(c, m.c) || !intact(c) {
			t.Errorf("%s and %s became %s and %s", showCore(m.c), show(m.v), showCore(c), show(v))
		}
		walk(&v, func(x *value.Value) {
			for i := len(x.L); i < cap(x.L); i++ {
				if !equal(x.L[:cap(x.L)][i], mark()) {
					t.Errorf("%s: its spare capacity was changed", show(m.v))
				}
			}
		})
	}
}
