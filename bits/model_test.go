package bits_test

import (
	"fmt"
	"math/rand"
	"slices"
	"strings"
	"testing"

	"catchpole/api"
	"catchpole/bits"
	"catchpole/core"
	"catchpole/value"
)

// modelPut are the choices of v, as the chapter tells them.
func modelPut(v value.Value) string {
	var l []string
	for _, x := range v.L {
		l = append(l, modelPut(x))
	}
	two := append(slices.Clone(l), "", "")
	switch v.Kind {
	case 3:
		return two[0] + two[1]
	case 4:
		return "0" + two[0]
	case 5:
		return "1" + two[0]
	case 6:
		return strings.Join(append([]string{""}, l...), "0") + "1"
	case 7:
		return two[0]
	}
	return ""
}

// model makes the values of cores, as the chapters tell which there are, so that
// nobody need go through choices from left to right. It makes those of each core
// and each string once.
type model struct{ made map[string][]made }

// made is a value of a core with its choices.
type made struct {
	v       value.Value
	choices string
}

// values are the values of c, which is valid, with the bytes of s, in which
// exactly that many iterations of stars match the empty string: the full ones
// are those with none.
func (m *model) values(c core.Core, s string, none int) []made {
	key := fmt.Sprintf("%d %q %s", none, s, core.Text(c))
	if _, ok := m.made[key]; !ok {
		m.made[key] = m.make(c, s, none)
	}
	return m.made[key]
}

// make makes the values of c, as values returns them.
func (m *model) make(c core.Core, s string, none int) []made {
	var all []made
	switch c.Kind {
	case 1:
		if s == "" && none == 0 {
			all = append(all, made{empty(), ""})
		}
	case 2:
		if len(s) == 1 && c.Set.Has(s[0]) && none == 0 {
			all = append(all, made{letter(s[0]), ""})
		}
	case 3:
		for _, p := range m.pairs(c.L[0], c.L[1], s, none) {
			all = append(all, made{concat(p[0].v, p[1].v), p[0].choices + p[1].choices})
		}
	case 4:
		for _, x := range m.values(c.L[0], s, none) {
			all = append(all, made{left(x.v), "0" + x.choices})
		}
		for _, x := range m.values(c.L[1], s, none) {
			all = append(all, made{right(x.v), "1" + x.choices})
		}
	case 5:
		return m.star(c, s, none)
	case 6:
		for _, x := range m.values(c.L[0], s, none) {
			all = append(all, made{group(x.v), x.choices})
		}
	case 7:
		all = m.values(c.L[0], s, none)
	}
	return all
}

// pairs are the values of a with those of b that have the bytes of s and that
// many iterations without a byte together.
func (m *model) pairs(a, b core.Core, s string, none int) [][2]made {
	var all [][2]made
	for at := range len(s) + 1 {
		for n := range none + 1 {
			for _, x := range m.values(a, s[:at], n) {
				for _, y := range m.values(b, s[at:], none-n) {
					all = append(all, [2]made{x, y})
				}
			}
		}
	}
	return all
}

// star are the values of c, a star. One of a further iteration has that one
// first, and then what another value of c has.
func (m *model) star(c core.Core, s string, none int) []made {
	var all []made
	if s == "" && none == 0 {
		all = append(all, made{star(), "1"})
	}
	add := func(firsts, others []made) {
		for _, x := range firsts {
			for _, y := range others {
				all = append(all, made{star(append([]value.Value{x.v}, y.v.L...)...), "0" + x.choices + y.choices})
			}
		}
	}
	for n := range none + 1 {
		for at := 1; at <= len(s); at++ {
			add(m.values(c.L[0], s[:at], n), m.values(c, s[at:], none-n))
		}
		if n < none {
			add(m.values(c.L[0], "", n), m.values(c, s, none-n-1))
		}
	}
	return all
}

// smallCores are the cores of each size up to that one, with sets of the letters
// a and b, and with a group and a renewal among those of one element.
func smallCores(most int) [][]core.Core {
	all := [][]core.Core{nil, {coreNothing(), coreEmpty(), coreSet("a"), coreSet("ab")}}
	for size := 2; size <= most; size++ {
		var l []core.Core
		for _, c := range all[size-1] {
			l = append(l, coreStar(c), coreGroup(size, c), coreRenewal(c))
		}
		for first := 1; first < size-1; first++ {
			for _, a := range all[first] {
				for _, b := range all[size-1-first] {
					l = append(l, coreConcat(a, b), coreAlternative(a, b))
				}
			}
		}
		all = append(all, l)
	}
	return all
}

// stringsOf are the strings of those characters of at most so many bytes, shorter
// ones first.
func stringsOf(characters string, most int) []string {
	all := []string{""}
	last := all
	for range most {
		var longer []string
		for _, s := range last {
			for _, b := range []byte(characters) {
				longer = append(longer, s+string([]byte{b}))
			}
		}
		all, last = append(all, longer...), longer
	}
	return all
}

// TestAllSmallChoices asks Get of all small cores with all short choices and all
// short strings: there is the value that the model has, or none.
func TestAllSmallChoices(t *testing.T) {
	m := model{map[string][]made{}}
	texts := append(stringsOf("ab", 2), "aaa", "aba", "c", "ac")
	choices := append(stringsOf("01", 5), "2", "a", "0 ", "1\x00", "00x", "01x", "0\xb11", "x01", "001001", "0010011", "000001", "0001001")
	found, missed := 0, 0
	for _, l := range smallCores(4) {
		for _, c := range l {
			for _, s := range texts {
				want := map[string]value.Value{}
				for _, x := range m.values(c, s, 0) {
					want[x.choices] = x.v
				}
				for _, text := range choices {
					if v, ok := want[text]; ok {
						wantGet(t, c, text, s, v)
						found++
					} else {
						wantError(t, c, text, s, api.EBITS)
						missed++
					}
				}
			}
		}
	}
	// There are both, and many of them.
	if found < 1000 || missed < 100000 {
		t.Errorf("Get found %d values, and missed %d", found, missed)
	}
}

// wantPrefixFree asks that among those choices, those of full values with one
// core and the same bytes, none are a proper prefix of others, and none are
// there twice.
func wantPrefixFree(t *testing.T, c core.Core, s string, all []string) {
	t.Helper()
	slices.Sort(all)
	// All that lies between a prefix and what it begins begins with it too.
	for i := 1; i < len(all); i++ {
		if strings.HasPrefix(all[i], all[i-1]) {
			t.Errorf("%s and %q: %q begins %q", show(c), s, all[i-1], all[i])
		}
	}
}

// TestRestoring asks P11.2 of all values of small cores with short strings: a
// full one is restored, and one that is good but not full is not.
func TestRestoring(t *testing.T) {
	m := model{map[string][]made{}}
	full, good := 0, 0
	for _, l := range smallCores(5) {
		for _, c := range l {
			for _, s := range []string{"", "a", "b", "aa", "ab", "aab", "aaaa"} {
				var all []string
				for _, x := range m.values(c, s, 0) {
					wantMatch(t, match{c, x.choices, s, x.v})
					all = append(all, bits.Put(x.v))
					full++
				}
				wantPrefixFree(t, c, s, all)
				for _, x := range append(slices.Clone(m.values(c, s[:min(2, len(s))], 1)), m.values(c, s[:min(1, len(s))], 2)...) {
					wantPut(t, x.v, x.choices)
					wantError(t, c, x.choices, string(value.Flat(x.v)), api.EBITS)
					good++
				}
			}
		}
	}
	if full < 10000 || good < 10000 {
		t.Errorf("%d full values, and %d that are good, but not full", full, good)
	}
}

// TestModel asks whether what the model makes are values, and full ones where it
// says so: its other users could be content with fewer.
func TestModel(t *testing.T) {
	m := model{map[string][]made{}}
	for _, l := range smallCores(4) {
		for _, c := range l {
			for _, s := range stringsOf("ab", 2) {
				for none := range 3 {
					for _, x := range m.values(c, s, none) {
						if !value.Good(c, x.v) || value.Full(c, x.v) != (none == 0) || string(value.Flat(x.v)) != s {
							t.Errorf("%s of %s with %d empty iterations and the bytes %q", value.Text(x.v), show(c), none, s)
						}
						if modelPut(x.v) != x.choices {
							t.Errorf("%s has the choices %q or %q", value.Text(x.v), modelPut(x.v), x.choices)
						}
					}
				}
			}
		}
	}
	word := coreStar(coreStar(coreAlternative(coreSet("a"), coreSet("ab"))))
	// Three letters are parted in four ways, and each is taken in one of two.
	if got := len(m.values(word, "aaa", 0)); got != 32 {
		t.Errorf("%d full values of aaa, want 32", got)
	}
}

// TestAmbiguousCores asks P11.2 of cores with many values of one string.
func TestAmbiguousCores(t *testing.T) {
	m := model{map[string][]made{}}
	a, ab := coreSet("a"), coreSet("ab")
	option := coreAlternative(a, coreEmpty())
	for _, x := range []struct {
		c     core.Core
		s     string
		least int
	}{
		{coreStar(coreStar(coreStar(ab))), "abaaba", 200},
		{coreStar(coreAlternative(a, coreAlternative(coreConcat(a, a), ab))), "aaaaaaa", 200},
		{coreStar(coreConcat(option, coreConcat(option, option))), "aaaaa", 100},
		{coreConcat(coreStar(option), coreConcat(coreStar(a), coreStar(coreGroup(1, coreAlternative(a, a))))), "aaaaaa", 100},
		{coreConcat(option, coreConcat(coreRenewal(option), coreConcat(coreRenewal(option), coreRenewal(option)))), "aa", 6},
		{coreStar(coreRenewal(coreGroup(1, coreAlternative(coreStar(ab), coreAlternative(coreStar(a), coreEmpty()))))), "aaba", 20},
	} {
		full := m.values(x.c, x.s, 0)
		if len(full) < x.least {
			t.Errorf("%s has %d full values of %q", show(x.c), len(full), x.s)
		}
		var all []string
		for _, y := range full {
			wantMatch(t, match{x.c, y.choices, x.s, y.v})
			all = append(all, bits.Put(y.v))
		}
		wantPrefixFree(t, x.c, x.s, all)
	}
}

// drawnMatch is a core of about that size with a value of it, without the
// choices and bytes.
func drawnMatch(r *rand.Rand, size int) match {
	if size < 2 {
		if r.Intn(4) == 0 {
			return match{c: coreEmpty(), v: empty()}
		}
		text := []string{"a", "b", "abc", "\x00\xff", "01"}[r.Intn(5)]
		return match{c: coreSet(text), v: letter(text[r.Intn(len(text))])}
	}
	x := drawnMatch(r, size-1)
	half := func() match { return drawnMatch(r, size/2) }
	switch r.Intn(8) {
	case 0, 1:
		a, b := half(), half()
		return match{c: coreConcat(a.c, b.c), v: concat(a.v, b.v)}
	case 2:
		a, b := half(), half()
		return match{c: coreAlternative(a.c, b.c), v: left(a.v)}
	case 3:
		a, b := half(), half()
		return match{c: coreAlternative(a.c, b.c), v: right(b.v)}
	case 4, 5:
		v := star()
		for range r.Intn(4) {
			v.L = append(v.L, x.v)
		}
		return match{c: coreStar(x.c), v: v}
	case 6:
		return match{c: coreGroup(1+r.Intn(32), x.c), v: group(x.v)}
	}
	return match{c: coreRenewal(x.c), v: x.v}
}

// full tells whether no iteration of a star in v, a value without faults, has no
// byte.
func full(v value.Value) bool {
	for _, x := range v.L {
		if !full(x) || v.Kind == 6 && len(value.Flat(x)) == 0 {
			return false
		}
	}
	return true
}

// TestDrawnValues asks P11.2 of larger cores with values of them: as no choices
// are a prefix of others, there are no values with fewer of them or with more.
func TestDrawnValues(t *testing.T) {
	r := rand.New(rand.NewSource(11))
	restored, refused := 0, 0
	for range 20000 {
		m := drawnMatch(r, 1+r.Intn(16))
		m.choices, m.s = modelPut(m.v), string(value.Flat(m.v))
		wantPut(t, m.v, m.choices)
		switch {
		case len(m.s) > api.MaxInput:
			wantError(t, m.c, m.choices, m.s, api.EARG)
		case full(m.v):
			restored++
			wantMatch(t, m)
			wantError(t, m.c, m.choices+"0", m.s, api.EBITS)
			wantError(t, m.c, m.choices+"1", m.s, api.EBITS)
			for range 5 {
				if m.choices != "" {
					wantError(t, m.c, m.choices[:r.Intn(len(m.choices))], m.s, api.EBITS)
				}
			}
		default:
			refused++
			wantError(t, m.c, m.choices, m.s, api.EBITS)
		}
	}
	if restored < 5000 || refused < 500 {
		t.Errorf("%d drawn values are full, and %d are not", restored, refused)
	}
}

// TestDrawnChanges asks of choices and bytes that differ a little from those of
// a value: if there is a value, it is a full one with exactly these.
func TestDrawnChanges(t *testing.T) {
	r := rand.New(rand.NewSource(12))
	found, missed := 0, 0
	for range 100000 {
		m := drawnMatch(r, 1+r.Intn(12))
		choices, s := drawnChange(r, modelPut(m.v), "01x"), drawnChange(r, string(value.Flat(m.v)), "abc01\x00")
		v, err := bits.Get(m.c, choices, []byte(s))
		switch {
		case len(s) > api.MaxInput && err == api.EARG:
		case err == api.EBITS && value.Same(v, value.Value{}):
			missed++
		case err == api.OK && value.Full(m.c, v) && modelPut(v) == choices && string(value.Flat(v)) == s:
			found++
		default:
			t.Errorf("Get of %s, %q and %q: %s, %v", show(m.c), choices, s, value.Text(v), err)
		}
	}
	if found < 5000 || missed < 5000 {
		t.Errorf("Get found %d values, and missed %d", found, missed)
	}
}

// drawnChange is text with a change at one place, or as it is.
func drawnChange(r *rand.Rand, text, characters string) string {
	at := r.Intn(len(text) + 1)
	one := string(characters[r.Intn(len(characters))])
	switch r.Intn(8) {
	case 0:
		return text[:at] + one + text[at:]
	case 1:
		return text[:at] + one + text[min(at+1, len(text)):]
	case 2:
		return text[:at] + text[min(at+1, len(text)):]
	}
	return text
}

// smallValues are all values of that many parts, good ones and others, with
// kinds from 0 to 8.
func smallValues(size int) []value.Value {
	var all []value.Value
	for _, l := range smallLists(size - 1) {
		for kind := range 9 {
			all = append(all, value.Value{Kind: kind, B: '1', L: l})
		}
	}
	return all
}

// smallLists are all lists of values that have so many parts together.
func smallLists(size int) [][]value.Value {
	if size == 0 {
		return [][]value.Value{nil}
	}
	var all [][]value.Value
	for first := 1; first <= size; first++ {
		for _, rest := range smallLists(size - first) {
			for _, v := range smallValues(first) {
				all = append(all, append([]value.Value{v}, rest...))
			}
		}
	}
	return all
}

// TestPutOfSmallValues asks of all small values, good ones and others.
func TestPutOfSmallValues(t *testing.T) {
	for size := 1; size <= 5; size++ {
		for _, v := range smallValues(size) {
			wantPut(t, v, modelPut(v))
		}
	}
}
