package every_test

import (
	"fmt"
	"math/rand"
	"slices"
	"testing"

	"catchpole/api"
	"catchpole/bits"
	"catchpole/core"
	"catchpole/eager"
	"catchpole/every"
	"catchpole/lang"
	"catchpole/value"
)

// model makes the full values of cores from those of shorter strings, without an
// order. It makes those of each core and each string once.
type model struct{ made map[string][]value.Value }

// values are all full values of c, which is valid, with the bytes of s.
func (m *model) values(c core.Core, s string) []value.Value {
	key := fmt.Sprintf("%q %s", s, core.Text(c))
	if _, ok := m.made[key]; !ok {
		m.made[key] = m.make(c, s)
	}
	return m.made[key]
}

// make makes the values of c, as values returns them.
func (m *model) make(c core.Core, s string) []value.Value {
	var all []value.Value
	// wrap adds those of an element, each within a value of that kind.
	wrap := func(kind int, element core.Core) {
		for _, v := range m.values(element, s) {
			all = append(all, value.Value{Kind: kind, L: []value.Value{v}})
		}
	}
	switch c.Kind {
	case 1:
		if s == "" {
			all = append(all, empty())
		}
	case 2:
		if len(s) == 1 && c.Set.Has(s[0]) {
			all = append(all, letter(s[0]))
		}
	case 3:
		for at := range len(s) + 1 {
			for _, x := range m.values(c.L[0], s[:at]) {
				for _, y := range m.values(c.L[1], s[at:]) {
					all = append(all, concat(x, y))
				}
			}
		}
	case 4:
		wrap(4, c.L[0])
		wrap(5, c.L[1])
	case 5:
		all = m.star(c, s)
	case 6:
		wrap(7, c.L[0])
	case 7:
		all = m.values(c.L[0], s)
	}
	return all
}

// star are the values of c, a star: what another value of it has and then a last
// iteration, which has a byte.
func (m *model) star(c core.Core, s string) []value.Value {
	if s == "" {
		return []value.Value{star()}
	}
	var all []value.Value
	for at := range len(s) {
		for _, x := range m.values(c, s[:at]) {
			for _, y := range m.values(c.L[0], s[at:]) {
				all = append(all, star(append(slices.Clone(x.L), y)...))
			}
		}
	}
	return all
}

// sorted are the values in the order of their choices.
func (m *model) sorted(c core.Core, s string) []value.Value {
	all := slices.Clone(m.values(c, s))
	slices.SortFunc(all, eager.Cmp)
	return all
}

// stringsOf are the strings of those bytes of at most so many of them, shorter
// ones first.
func stringsOf(bytes string, most int) []string {
	all := []string{""}
	last := all
	for range most {
		var longer []string
		for _, s := range last {
			for _, b := range []byte(bytes) {
				longer = append(longer, s+string([]byte{b}))
			}
		}
		all, last = append(all, longer...), longer
	}
	return all
}

// modelTexts are the strings of c of at most n of those bytes.
func modelTexts(c core.Core, bytes string, n int) []string {
	return slices.DeleteFunc(stringsOf(bytes, n), func(s string) bool { return !lang.Says(c, []byte(s)) })
}

// smallCores are the cores of each size up to that one, with sets of the letters
// a and b, and with a group and a renewal among those of one element.
func smallCores(most int) [][]core.Core {
	all := [][]core.Core{nil, {coreNothing(), coreEmpty(), coreSet("a"), coreSet("ab")}}
	for size := 2; size <= most; size++ {
		var l []core.Core
		for _, c := range all[size-1] {
			l = append(l, coreStar(c), coreGroup(size, c), coreRenewal(c))
		}
		for first := 1; first < size-1; first++ {
			for _, a := range all[first] {
				for _, b := range all[size-1-first] {
					l = append(l, coreConcat(a, b), coreAlternative(a, b))
				}
			}
		}
		all = append(all, l)
	}
	return all
}

// TestAllOfSmallCores asks for all values of all small cores with short strings.
func TestAllOfSmallCores(t *testing.T) {
	m := model{map[string][]value.Value{}}
	texts := append(stringsOf("ab", 2), "aaa", "aba", "c", "ac")
	found, several := 0, 0
	for _, l := range smallCores(5) {
		for _, c := range l {
			for _, s := range texts {
				want := m.sorted(c, s)
				wantAll(t, c, s, want)
				found += len(want)
				if len(want) > 1 {
					several++
				}
			}
		}
	}
	if found < 10000 || several < 1000 {
		t.Errorf("%d values, and %d times more than one", found, several)
	}
}

// TestTextsOfSmallCores asks for all short strings of all small cores.
func TestTextsOfSmallCores(t *testing.T) {
	found := 0
	for _, l := range smallCores(5) {
		for _, c := range l {
			for _, bytes := range []string{"", "a", "b", "ba", "acb"} {
				for n := range 4 {
					want := modelTexts(c, bytes, n)
					wantTexts(t, c, bytes, n, want...)
					found += len(want)
				}
			}
		}
	}
	if found < 10000 {
		t.Errorf("%d strings", found)
	}
}

// drawnCore is a core of about that size.
func drawnCore(r *rand.Rand, size int) core.Core {
	if size < 2 {
		if r.Intn(5) == 0 {
			return []core.Core{coreEmpty(), coreEmpty(), coreNothing()}[r.Intn(3)]
		}
		return coreSet([]string{"a", "b", "ab", "abc", "c"}[r.Intn(5)])
	}
	switch r.Intn(7) {
	case 0, 1:
		return coreConcat(drawnCore(r, size/2), drawnCore(r, size/2))
	case 2, 3:
		return coreAlternative(drawnCore(r, size/2), drawnCore(r, size/2))
	case 4:
		return coreGroup(1+r.Intn(32), drawnCore(r, size-1))
	case 5:
		return coreRenewal(drawnCore(r, size-1))
	}
	return coreStar(drawnCore(r, size-1))
}

// drawnText is a string of at most that many letters.
func drawnText(r *rand.Rand, most int) string {
	s := make([]byte, r.Intn(most+1))
	for i := range s {
		s[i] = "aaabc"[r.Intn(5)]
	}
	return string(s)
}

// TestAllOfDrawnCores asks of larger cores, also of those with too many values.
func TestAllOfDrawnCores(t *testing.T) {
	r := rand.New(rand.NewSource(15))
	found, several, tooMany := 0, 0, 0
	for range 10000 {
		m := model{map[string][]value.Value{}}
		c, s := drawnCore(r, 1+r.Intn(24)), drawnText(r, 5)
		if every.Count(c, []byte(s), api.MaxEvery) > api.MaxEvery {
			// The model would take too long here.
			s = s[:min(2, len(s))]
		}
		if n := every.Count(c, []byte(s), api.MaxEvery); n > 200 {
			wantTooMany(t, c, s, n-1)
			tooMany++
			continue
		}
		want := m.sorted(c, s)
		wantAll(t, c, s, want)
		wantProper(t, c, s, want)
		found += len(want)
		if len(want) > 1 {
			several++
		}
	}
	if found < 5000 || several < 1000 || tooMany < 50 {
		t.Errorf("%d values, %d times more than one, and %d times too many", found, several, tooMany)
	}
}

// TestTextsOfDrawnCores asks of larger cores, with bytes in any order.
func TestTextsOfDrawnCores(t *testing.T) {
	r := rand.New(rand.NewSource(16))
	found := 0
	for range 3000 {
		c := drawnCore(r, 1+r.Intn(40))
		bytes := []byte("abcd")
		r.Shuffle(len(bytes), func(i, j int) { bytes[i], bytes[j] = bytes[j], bytes[i] })
		text, n := string(bytes[:r.Intn(5)]), r.Intn(5)
		want := modelTexts(c, text, n)
		wantTexts(t, c, text, n, want...)
		found += len(want)
	}
	if found < 10000 {
		t.Errorf("%d strings", found)
	}
}

// TestChoices asks All of small cores for what has each short choices, and for
// nothing else: bits tells what has them.
func TestChoices(t *testing.T) {
	const longest = 7
	choices := stringsOf("01", longest)
	slices.Sort(choices)
	for _, l := range smallCores(4) {
		for _, c := range l {
			for _, s := range []string{"", "a", "aa", "ab"} {
				var want []value.Value
				for _, text := range choices {
					if v, err := bits.Get(c, text, []byte(s)); err == api.OK {
						want = append(want, v)
					}
				}
				got, err := every.All(c, []byte(s), api.MaxEvery)
				long := func(v value.Value) bool { return len(bits.Put(v)) > longest }
				if err != api.OK || !slices.EqualFunc(slices.DeleteFunc(got, long), want, value.Same) {
					t.Errorf("All of %s and %q: %s, %v, want %s", show(c), s, textsOf(got), err, textsOf(want))
				}
			}
		}
	}
}

// TestAllAndTexts asks that Texts finds just the strings with values.
func TestAllAndTexts(t *testing.T) {
	r := rand.New(rand.NewSource(17))
	for range 500 {
		c := drawnCore(r, 1+r.Intn(60))
		want := slices.DeleteFunc(stringsOf("bca", 5), func(s string) bool { return every.Count(c, []byte(s), 0) == 0 })
		wantTexts(t, c, "bca", 5, want...)
	}
}

// TestModel asks the model for the chapter's example, and for numbers of values
// that one can tell without it.
func TestModel(t *testing.T) {
	m := model{map[string][]value.Value{}}
	a := coreSet("a")
	if got := textsOf(m.sorted(coreGroup(1, coreAlternative(a, a)), "a")); !slices.Equal(got, []string{"<L61>", "<R61>"}) {
		t.Errorf("the values of (a|a) and a: %s", got)
	}
	for _, x := range []struct {
		c    core.Core
		s    string
		want int
	}{
		{coreStar(a), "aaaaaa", 1},
		{coreStar(coreStar(a)), "aaaaaa", 32},
		{coreConcat(coreStar(a), coreStar(a)), "aaaaaa", 7},
		{coreStar(coreAlternative(a, a)), "aaaaaa", 64},
		{coreStar(coreAlternative(a, coreConcat(a, a))), "aaaaaa", 13},
		{coreStar(coreAlternative(coreEmpty(), a)), "aaaaaa", 1},
	} {
		if got := m.sorted(x.c, x.s); len(got) != x.want {
			t.Errorf("%d values of %s and %s, want %d", len(got), show(x.c), x.s, x.want)
		}
	}
	if got := modelTexts(coreStar(coreSet("ab")), "ba", 2); !slices.Equal(got, []string{"", "b", "a", "bb", "ba", "ab", "aa"}) {
		t.Errorf("the strings of [ab]*: %q", got)
	}
}
