package every_test

import (
	"math"
	"slices"
	"strings"
	"testing"

	"catchpole/api"
	"catchpole/core"
	"catchpole/every"
	"catchpole/value"
)

// wantRefused asks that All refuses its arguments and returns no values, and that
// Count counts none.
func wantRefused(t *testing.T, c core.Core, s string, most int) {
	t.Helper()
	if got, err := every.All(c, []byte(s), most); err != api.EARG || len(got) > 0 {
		t.Errorf("All of %s, %d bytes and %d: %d values, %v, want %v", show(c), len(s), most, len(got), err, api.EARG)
	}
	if got := every.Count(c, []byte(s), most); got != 0 {
		t.Errorf("Count of %s, %d bytes and %d: %d, want 0", show(c), len(s), most, got)
	}
}

// wantTextsRefused asks that Texts refuses its arguments and returns no strings.
func wantTextsRefused(t *testing.T, c core.Core, bytes string, n, most int) {
	t.Helper()
	if got, err := every.Texts(c, []byte(bytes), n, most); err != api.EARG || len(got) > 0 {
		t.Errorf("Texts of %s, %q, %d and %d: %d strings, %v, want %v", show(c), cut(bytes), n, most, len(got), err, api.EARG)
	}
}

// outside are numbers that are not from 0 to that one.
func outside(limit int) []int {
	return []int{math.MinInt, -1 << 32, -limit, -2, -1, limit + 1, limit + 2, 2*limit + 1, 1 << 31, 1<<32 - 1, 1 << 32, 1<<32 + 1, math.MaxInt}
}

// TestMost asks of each most that is accepted, and of others.
func TestMost(t *testing.T) {
	a, none, many := coreSet("a"), coreNothing(), coreStar(coreStar(coreSet("a")))
	for most := range api.MaxEvery + 1 {
		if l, err := every.All(none, nil, most); err != api.OK || len(l) != 0 || every.Count(none, nil, most) != 0 {
			t.Errorf("All of no value and %d: %d, %v", most, len(l), err)
		}
		if l, err := every.Texts(none, nil, 0, most); err != api.OK || len(l) != 0 {
			t.Errorf("Texts of no string and %d: %d, %v", most, len(l), err)
		}
		if most > 0 {
			if l, err := every.All(a, []byte("a"), most); err != api.OK || len(l) != 1 || every.Count(a, []byte("a"), most) != 1 {
				t.Errorf("All of a and %d: %d, %v", most, len(l), err)
			}
			if l, err := every.Texts(a, []byte("a"), 1, most); err != api.OK || len(l) != 1 {
				t.Errorf("Texts of a and %d: %d, %v", most, len(l), err)
			}
		}
		wantTooMany(t, many, strings.Repeat("a", 40), most)
	}
	for _, most := range outside(api.MaxEvery) {
		for _, c := range []core.Core{none, coreEmpty(), a, many} {
			for _, s := range []string{"", "a", "b", strings.Repeat("a", 40)} {
				wantRefused(t, c, s, most)
				wantTextsRefused(t, c, "a", min(len(s), 8), most)
			}
		}
	}
}

// TestMaxInput asks for strings of MaxInput bytes and of more, whether there is a
// value or not, and whether there are too many.
func TestMaxInput(t *testing.T) {
	a, e := coreSet("a"), coreEmpty()
	for length := api.MaxInput - 2; length <= api.MaxInput; length++ {
		s := strings.Repeat("a", length)
		wantAll(t, coreStar(a), s, []value.Value{letters(s)})
		wantAll(t, a, s, nil)
		wantTooMany(t, coreStar(coreAlternative(a, a)), s, api.MaxEvery)
	}
	for _, length := range []int{api.MaxInput + 1, api.MaxInput + 2, 2 * api.MaxInput, 65536, 1 << 20} {
		s := strings.Repeat("a", length)
		for _, c := range []core.Core{coreStar(a), a, e, coreNothing(), coreStar(coreAlternative(a, a)), {Kind: -1}} {
			for _, most := range []int{-1, 0, 1, api.MaxEvery, api.MaxEvery + 1} {
				wantRefused(t, c, s, most)
			}
		}
	}
}

// TestLength asks Texts for lengths that it refuses, whatever else there is.
func TestLength(t *testing.T) {
	for _, n := range outside(8) {
		for _, c := range []core.Core{coreNothing(), coreEmpty(), coreSet("a"), coreStar(coreSet("ab")), {Kind: 8}} {
			for _, bytes := range []string{"", "a", "ab", "aa"} {
				for _, most := range []int{0, 1, api.MaxEvery, -1} {
					wantTextsRefused(t, c, bytes, n, most)
				}
			}
		}
	}
}

// TestNumberOfBytes asks Texts for too many bytes, also where none of them would
// be read.
func TestNumberOfBytes(t *testing.T) {
	var all []byte
	for b := range 256 {
		all = append(all, byte(b))
	}
	for _, c := range []core.Core{coreNothing(), coreEmpty(), coreSet("a"), coreStar(coreSet("ab"))} {
		for n := range 9 {
			for _, count := range []int{17, 18, 32, 33, 128, 255, 256} {
				wantTextsRefused(t, c, string(all[:count]), n, api.MaxEvery)
				wantTextsRefused(t, c, string(all[256-count:]), n, 0)
			}
			for _, length := range []int{17, 257, 65537, 1 << 20} {
				wantTextsRefused(t, c, strings.Repeat("a", length), n, api.MaxEvery)
			}
			for count := range 17 {
				if got, err := every.Texts(coreEmpty(), all[100:100+count], n, 1); err != api.OK || !slices.Equal(stringsIn(got), []string{""}) {
					t.Errorf("Texts of %d bytes: %q, %v", count, got, err)
				}
			}
		}
	}
}

// TestRepeatedBytes asks Texts for bytes of which one occurs twice, at any two
// places.
func TestRepeatedBytes(t *testing.T) {
	const bytes = "\x00abcdefghijklmn\xff"
	for length := 2; length <= len(bytes); length++ {
		for i := range length {
			for j := range length {
				if i == j {
					continue
				}
				l := []byte(bytes[:length])
				l[i] = l[j]
				for _, c := range []core.Core{coreEmpty(), coreSet("xyz"), coreSet(string(l[j : j+1])), coreStar(coreSet(string(l)))} {
					wantTextsRefused(t, c, string(l), 0, 0)
					wantTextsRefused(t, c, string(l), 1, api.MaxEvery)
					wantTextsRefused(t, c, string(l), 8, 1)
				}
			}
		}
	}
	wantTextsRefused(t, coreEmpty(), strings.Repeat("a", 16), 0, 1)
}

// wrongCores are cores that are not valid.
func wrongCores() []core.Core {
	a := coreSet("a")
	large := a
	for range api.MaxCore {
		large = coreStar(large)
	}
	shared := a
	for range 200 {
		shared = coreConcat(shared, shared)
	}
	all := []core.Core{
		{Kind: -1}, {Kind: 8}, {Kind: 9, L: []core.Core{a}}, {Kind: 256 + 1}, {Kind: 1<<32 + 2, Set: a.Set},
		{N: 1}, {Set: a.Set}, {L: []core.Core{a}},
		{Kind: 1, N: 1}, {Kind: 1, Set: a.Set}, {Kind: 1, L: []core.Core{a}},
		{Kind: 2, Set: a.Set, N: 1}, {Kind: 2, Set: a.Set, L: []core.Core{a}},
		coreConcat(), coreConcat(a), coreConcat(a, a, a),
		coreAlternative(), coreAlternative(a), coreAlternative(a, a, a),
		coreStar(), coreStar(a, a),
		coreGroup(1), coreGroup(1, a, a), coreGroup(0, a), coreGroup(-1, a), coreGroup(api.MaxGroups+1, a),
		coreRenewal(), coreRenewal(a, a),
		large, shared,
	}
	for _, c := range []core.Core{coreConcat(a, a), coreAlternative(a, a), coreStar(a), coreRenewal(a)} {
		numbered, withSet := c, c
		numbered.N, withSet.Set = 1, a.Set
		all = append(all, numbered, withSet)
	}
	return append(all, core.Core{Kind: 6, N: 1, Set: a.Set, L: []core.Core{a}})
}

// TestWrongCores asks of cores that are not valid, also at places where no string
// leads.
func TestWrongCores(t *testing.T) {
	a := coreSet("a")
	for _, wrong := range wrongCores() {
		for _, c := range []core.Core{
			wrong,
			coreConcat(a, wrong),
			coreConcat(wrong, a),
			coreConcat(coreNothing(), wrong),
			coreAlternative(a, wrong),
			coreAlternative(wrong, a),
			coreStar(wrong),
			coreGroup(1, wrong),
			coreRenewal(wrong),
			coreStar(coreAlternative(a, coreRenewal(coreGroup(1, wrong)))),
		} {
			for _, most := range []int{-1, 0, 1, api.MaxEvery, api.MaxEvery + 1} {
				for _, s := range []string{"", "a", "aa", strings.Repeat("a", api.MaxInput), strings.Repeat("a", api.MaxInput+1)} {
					wantRefused(t, c, s, most)
				}
				for _, n := range []int{-1, 0, 1, 8, 9} {
					wantTextsRefused(t, c, "", n, most)
					wantTextsRefused(t, c, "ab", n, most)
					wantTextsRefused(t, c, "aa", n, most)
				}
			}
		}
	}
}

// TestOrderOfErrors asks that what is refused is not told as too many.
func TestOrderOfErrors(t *testing.T) {
	c := coreStar(coreAlternative(coreSet("ab"), coreSet("ab")))
	wantTooMany(t, c, "a", 0)
	wantTooManyTexts(t, c, "ab", 8, 0)
	wantRefused(t, c, "a", -1)
	wantRefused(t, c, strings.Repeat("a", api.MaxInput+1), 0)
	wantRefused(t, coreStar(c, c), "a", 0)
	wantTextsRefused(t, c, "ab", 8, -1)
	wantTextsRefused(t, c, "ab", 9, 0)
	wantTextsRefused(t, c, "aba", 8, 0)
	wantTextsRefused(t, c, "abcdefghijklmnopq", 8, 0)
	wantTextsRefused(t, coreStar(c, c), "ab", 8, 0)
}
