package every_test

import (
	"math/rand"
	"slices"
	"strings"
	"testing"

	"catchpole/api"
	"catchpole/byteset"
	"catchpole/core"
	"catchpole/every"
	"catchpole/value"
)

// choice is a core that matches what x matches in that many ways, and the values
// of x in it, if v is that of x.
func choice(count int, x core.Core, v value.Value) (core.Core, []value.Value) {
	c, l := x, []value.Value{v}
	for range count - 1 {
		c = coreAlternative(x, c)
		for i := range l {
			l[i] = right(l[i])
		}
		l = append([]value.Value{left(v)}, l...)
	}
	return c, l
}

// TestMaxEvery asks for about MaxEvery values of the empty string and of a byte,
// and of as many strings.
func TestMaxEvery(t *testing.T) {
	for _, inner := range []struct {
		c core.Core
		v value.Value
		s string
	}{{coreEmpty(), empty(), ""}, {coreSet("a"), letter('a'), "a"}} {
		first, firsts := choice(40, inner.c, inner.v)
		second, seconds := choice(50, coreEmpty(), empty())
		c := coreConcat(first, second)
		var l []value.Value
		for _, x := range firsts {
			for _, y := range seconds {
				l = append(l, concat(x, y))
			}
		}
		if len(l) != api.MaxEvery {
			t.Fatalf("%d values", len(l))
		}
		wantAll(t, c, inner.s, l)
		for i := range l {
			l[i] = left(l[i])
		}
		wantAll(t, coreAlternative(c, coreSet("z")), inner.s, l)
		wantTooMany(t, coreAlternative(c, inner.c), inner.s, api.MaxEvery)
		wantTooMany(t, coreAlternative(inner.c, c), inner.s, api.MaxEvery)
		wantTooMany(t, coreConcat(c, c), inner.s+inner.s, api.MaxEvery)
	}
	const bytes = "ponmlkjihgfedcba"
	five := coreSet("bdegp")
	c := coreConcat(coreSet(bytes), coreConcat(five, coreConcat(five, five)))
	var all []string
	for _, b := range []byte(bytes) {
		// Those of three letters stand behind all shorter ones.
		for _, s := range stringsOf("pgedb", 3)[31:] {
			all = append(all, string([]byte{b})+s)
		}
	}
	if len(all) != api.MaxEvery {
		t.Fatalf("%d strings", len(all))
	}
	wantTexts(t, c, bytes, 4, all...)
	wantTexts(t, c, bytes, 8, all...)
	wantTexts(t, c, bytes, 3)
	for _, more := range []core.Core{coreEmpty(), five, coreStar(coreSet("z")), coreConcat(c, five)} {
		wantTooManyTexts(t, coreAlternative(c, more), bytes, 8, api.MaxEvery)
		wantTooManyTexts(t, coreAlternative(more, c), bytes, 8, api.MaxEvery)
	}
}

// nested is c within that many stars.
func nested(times int, c core.Core) core.Core {
	for range times {
		c = coreStar(c)
	}
	return c
}

// chain is v within that many values of that kind, alone in each.
func chain(kind, times int, v value.Value) value.Value {
	for range times {
		v = value.Value{Kind: kind, L: []value.Value{v}}
	}
	return v
}

// TestNestedStars asks of stars within stars, up to as many as there may be: two
// bytes are parted in any one of them, and the innermost one is preferred.
func TestNestedStars(t *testing.T) {
	a, one := coreSet("a"), letter('a')
	for _, times := range []int{1, 2, 3, 50, 300} {
		var want []value.Value
		for inner := range times {
			part := chain(6, inner, one)
			want = append(want, chain(6, times-1-inner, star(part, part)))
		}
		wantAll(t, nested(times, a), "aa", want)
	}
	const most = api.MaxCore - 1
	deepest := nested(most, a)
	wantAll(t, deepest, "", []value.Value{star()})
	wantAll(t, deepest, "a", []value.Value{chain(6, most, one)})
	if got := every.Count(deepest, []byte("aa"), api.MaxEvery); got != most {
		t.Errorf("Count of %d stars and aa: %d", most, got)
	}
	wantTooMany(t, deepest, "aa", most-1)
	wantTooMany(t, deepest, "aaa", api.MaxEvery)
	wantTooMany(t, deepest, strings.Repeat("a", api.MaxInput), api.MaxEvery)
	wantAll(t, deepest, strings.Repeat("a", api.MaxInput-1)+"b", nil)
	wantAll(t, nested(most, coreEmpty()), "", []value.Value{star()})
	wantAll(t, nested(most, coreEmpty()), "a", nil)
	wantTexts(t, deepest, "ba", 8, "", "a", "aa", "aaa", "aaaa", "aaaaa", "aaaaaa", "aaaaaaa", "aaaaaaaa")
	for _, kind := range []int{6, 7} {
		c, v := a, one
		for i := range most {
			c = []core.Core{coreGroup(1+i%api.MaxGroups, c), coreRenewal(c)}[kind-6]
			if kind == 6 {
				v = group(v)
			}
		}
		wantAll(t, c, "a", []value.Value{v})
		wantAll(t, c, "", nil)
		wantTexts(t, c, "cab", 8, "a")
	}
	wantRefused(t, coreStar(deepest), "", 1)
	wantTextsRefused(t, coreStar(deepest), "a", 1, 1)
}

// TestLongStrings asks for values of strings of MaxInput bytes: two stars part them
// at any place, the first of them takes as many as it can.
func TestLongStrings(t *testing.T) {
	a, s := coreSet("a"), strings.Repeat("a", api.MaxInput)
	var want []value.Value
	for at := len(s); at >= 0; at-- {
		want = append(want, concat(letters(s[:at]), letters(s[at:])))
	}
	wantAll(t, coreConcat(coreStar(a), coreStar(a)), s, want)
	wantAll(t, coreConcat(coreStar(coreSet("b")), coreConcat(coreStar(a), coreSet("b"))), s, nil)

	three := coreConcat(coreStar(a), coreConcat(coreStar(a), coreStar(a)))
	l, err := every.All(three, []byte(s[:61]), api.MaxEvery)
	if err != api.OK || len(l) != 63*62/2 {
		t.Errorf("All of three stars: %d, %v", len(l), err)
	}
	wantProper(t, three, s[:61], l)
	wantTooMany(t, three, s[:62], api.MaxEvery)
	wantTooMany(t, three, s, api.MaxEvery)

	var all []byte
	for b := range 256 {
		all = append(all, byte(255-b))
	}
	row, v := coreEmpty(), empty()
	for _, b := range slices.Backward(all) {
		row, v = coreConcat(coreSet(string([]byte{b})), row), concat(letter(b), v)
	}
	wantAll(t, row, string(all), []value.Value{v})
	wantAll(t, coreStar(row), string(all), []value.Value{star(v)})
	wantAll(t, row, string(all[1:]), nil)
}

// TestFewOfMany asks of cores in which very many ways begin, of which no one or
// few come to the end: they would be far too many for one who tries them all.
func TestFewOfMany(t *testing.T) {
	a, e, full := coreSet("a"), coreEmpty(), strings.Repeat("a", api.MaxInput)
	// (a|1) 128 times, and then a 128 times.
	c, v := a, letter('a')
	for range 127 {
		c, v = coreConcat(a, c), concat(letter('a'), v)
	}
	few := v
	for range 128 {
		c, few, v = coreConcat(coreAlternative(a, e), c), concat(right(empty()), few), concat(left(letter('a')), v)
	}
	wantAll(t, c, full[:127], nil)
	wantAll(t, c, full[:128], []value.Value{few})
	if l, err := every.All(c, []byte(full[:129]), 128); err != api.OK || len(l) != 128 {
		t.Errorf("All of a byte more: %d, %v", len(l), err)
	}
	wantTooMany(t, c, full[:130], api.MaxEvery)
	wantAll(t, c, full, []value.Value{v})

	many := coreStar(coreAlternative(coreStar(a), coreStar(coreConcat(coreStar(a), coreStar(a)))))
	wantTooMany(t, many, full, api.MaxEvery)
	wantAll(t, coreConcat(many, coreSet("b")), full, nil)
	wantAll(t, coreAlternative(coreConcat(many, coreSet("b")), coreStar(a)), full, []value.Value{right(letters(full))})
	wantAll(t, coreConcat(coreNothing(), many), full, nil)
	wantAll(t, coreConcat(many, coreNothing()), full, nil)
	wantAll(t, coreAlternative(coreConcat(many, coreNothing()), coreStar(a)), full, []value.Value{right(letters(full))})

	// Of the empty string alone there are more values than anybody can count.
	options := coreAlternative(e, e)
	for range 399 {
		options = coreConcat(coreAlternative(e, e), options)
	}
	wantTooMany(t, options, "", api.MaxEvery)
	wantTooMany(t, coreConcat(a, options), "a", api.MaxEvery)
	wantAll(t, options, "a", nil)
	wantAll(t, coreStar(options), "", []value.Value{star()})
	wantAll(t, coreStar(options), full, nil)
	wantAll(t, coreAlternative(coreConcat(options, coreSet("b")), a), "a", []value.Value{right(letter('a'))})
	wantTooMany(t, coreStar(coreConcat(a, options)), full, api.MaxEvery)
}

// TestFewTextsOfMany asks of cores whose strings, or the ways to match them, are
// very many, but not those of the bytes and the lengths asked for.
func TestFewTextsOfMany(t *testing.T) {
	const bytes = "abcdefghijklmnop"
	all, a, b := core.Core{Kind: 2, Set: byteset.All()}, coreSet("a"), coreSet("b")
	nine := all
	for range 8 {
		nine = coreConcat(all, nine)
	}
	wantTexts(t, nine, bytes, 8)
	wantTexts(t, coreConcat(coreStar(all), coreSet("z")), bytes, 8)
	wantTexts(t, coreConcat(coreStar(all), coreNothing()), bytes, 8)
	wantTexts(t, coreAlternative(coreConcat(coreStar(all), coreSet("z")), coreConcat(a, b)), bytes, 8, "ab")
	wantTexts(t, coreAlternative(nine, a), bytes, 8, "a")
	wantTooManyTexts(t, coreStar(all), bytes, 8, api.MaxEvery)

	same := a
	for range 900 {
		same = coreAlternative(a, same)
	}
	eight := []string{"", "a", "aa", "aaa", "aaaa", "aaaaa", "aaaaaa", "aaaaaaa", "aaaaaaaa"}
	wantTexts(t, coreStar(same), bytes, 8, eight...)
	wantTexts(t, coreStar(coreStar(same)), "", 8, "")
	wantTexts(t, coreConcat(coreStar(same), b), "ba", 8, "b", "ab", "aab", "aaab", "aaaab", "aaaaab", "aaaaaab", "aaaaaaab")

	var words core.Core = coreEmpty()
	var want []string
	r := rand.New(rand.NewSource(18))
	for len(want) < 110 {
		word := make([]byte, 8)
		for i := range word {
			word[i] = bytes[r.Intn(len(bytes))]
		}
		if slices.Contains(want, string(word)) {
			continue
		}
		want = append(want, string(word))
		c := coreSet(string(word[7]))
		for i := 6; i >= 0; i-- {
			c = coreConcat(coreSet(string(word[i])), c)
		}
		words = coreAlternative(c, words)
	}
	slices.Sort(want)
	wantTexts(t, words, bytes, 7, "")
	wantTexts(t, words, bytes, 8, append([]string{""}, want...)...)
	wantTexts(t, coreStar(words), bytes, 8, append([]string{""}, want...)...)
}

// TestArbitraryArguments asks R1: each call ends, whatever it is given.
func TestArbitraryArguments(t *testing.T) {
	r := rand.New(rand.NewSource(19))
	for range 5000 {
		c := drawnCore(r, 1+r.Intn(200))
		if r.Intn(4) == 0 {
			c = core.Core{Kind: r.Intn(10) - 1, N: r.Intn(3), L: []core.Core{c, c}[:r.Intn(3)]}
		}
		s, most, n := drawnText(r, 40), r.Intn(api.MaxEvery+20)-10, r.Intn(12)-1
		good := core.Good(c) && 0 <= most && most <= api.MaxEvery
		l, err := every.All(c, []byte(s), most)
		count := every.Count(c, []byte(s), most)
		switch {
		case !good:
			wantRefused(t, c, s, most)
		case count > most:
			wantTooMany(t, c, s, most)
		case err != api.OK || len(l) != count:
			t.Errorf("All of %s, %q and %d: %d of %d, %v", show(c), s, most, len(l), count, err)
		default:
			wantProper(t, c, s, l)
		}
		bytes := drawnText(r, 3)
		texts, err := every.Texts(c, []byte(bytes), n, most)
		switch {
		case !good || n < 0 || n > 8 || len(slices.Compact(slices.Sorted(slices.Values([]byte(bytes))))) < len(bytes):
			wantTextsRefused(t, c, bytes, n, most)
		case err == api.OK && len(texts) > most || err != api.OK && (err != api.EFULL || len(texts) > 0):
			t.Errorf("Texts of %s, %q, %d and %d: %d, %v", show(c), bytes, n, most, len(texts), err)
		}
	}
}
