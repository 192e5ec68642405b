package bits_test

import (
	"strings"
	"testing"

	"catchpole/api"
	"catchpole/byteset"
	"catchpole/core"
	"catchpole/value"
)

// match is a core with a value of it, its choices and its bytes.
type match struct {
	c       core.Core
	choices string
	s       string
	v       value.Value
}

// matches has full values of each kind of core.
func matches() []match {
	a, b, e := letter('a'), letter('b'), empty()
	coreA, coreB := coreSet("a"), coreSet("b")
	either, option := coreAlternative(coreA, coreB), coreAlternative(coreA, coreEmpty())
	word := coreStar(either)
	return []match{
		{coreEmpty(), "", "", e},
		{coreA, "", "a", a},
		{coreSet("abc"), "", "b", b},
		{coreConcat(coreA, coreB), "", "ab", concat(a, b)},
		{coreConcat(coreEmpty(), coreEmpty()), "", "", concat(e, e)},
		{coreConcat(coreA, coreEmpty()), "", "a", concat(a, e)},
		{coreConcat(coreEmpty(), coreA), "", "a", concat(e, a)},
		{coreConcat(either, either), "01", "ab", concat(left(a), right(b))},
		{coreConcat(either, either), "10", "ba", concat(right(b), left(a))},
		{either, "0", "a", left(a)},
		{either, "1", "b", right(b)},
		{coreAlternative(coreA, coreA), "0", "a", left(a)},
		{coreAlternative(coreA, coreA), "1", "a", right(a)},
		{option, "1", "", right(e)},
		{coreAlternative(coreEmpty(), coreEmpty()), "0", "", left(e)},
		{coreAlternative(option, either), "00", "a", left(left(a))},
		{coreAlternative(option, either), "01", "", left(right(e))},
		{coreAlternative(option, either), "10", "a", right(left(a))},
		{coreAlternative(option, either), "11", "b", right(right(b))},
		{coreStar(coreA), "1", "", star()},
		{coreStar(coreA), "01", "a", star(a)},
		{coreStar(coreA), "001", "aa", star(a, a)},
		{coreStar(coreA), "00001", "aaaa", star(a, a, a, a)},
		{word, "00" + "01" + "00" + "1", "aba", star(left(a), right(b), left(a))},
		{coreStar(option), "001", "a", star(left(a))},
		{coreStar(coreEmpty()), "1", "", star()},
		{coreStar(coreStar(coreA)), "1", "", star()},
		{coreStar(coreStar(coreA)), "00" + "01" + "1", "aa", star(star(a, a))},
		{coreStar(coreStar(coreA)), "001" + "001" + "1", "aa", star(star(a), star(a))},
		{coreStar(coreConcat(coreA, coreStar(coreEmpty()))), "01" + "01" + "1", "aa", star(concat(a, star()), concat(a, star()))},
		{coreStar(coreConcat(coreStar(coreA), coreStar(coreB))), "0" + "1" + "01" + "0" + "01" + "1" + "1", "ba", star(concat(star(), star(b)), concat(star(a), star()))},
		{coreStar(coreConcat(option, option)), "0" + "1" + "0" + "0" + "0" + "1" + "1", "aa", star(concat(right(e), left(a)), concat(left(a), right(e)))},
		{coreGroup(1, coreA), "", "a", group(a)},
		{coreGroup(api.MaxGroups, either), "1", "b", group(right(b))},
		{coreGroup(1, coreEmpty()), "", "", group(e)},
		{coreGroup(2, coreGroup(1, word)), "1", "", group(group(star()))},
		{coreRenewal(coreA), "", "a", a},
		{coreRenewal(coreEmpty()), "", "", e},
		{coreRenewal(either), "1", "b", right(b)},
		{coreRenewal(word), "011", "b", star(right(b))},
		{coreRenewal(coreRenewal(coreGroup(3, coreA))), "", "a", group(a)},
		{coreStar(coreRenewal(coreGroup(1, either))), "01" + "00" + "1", "ba", star(group(right(b)), group(left(a)))},
		{coreConcat(coreGroup(1, word), coreAlternative(coreRenewal(coreGroup(1, word)), coreEmpty())), "001" + "0" + "011", "ab", concat(group(star(left(a))), left(group(star(right(b)))))},
	}
}

// around has m, and what has the same choices and bytes behind others and before
// others.
func around(m match) []match {
	x, y := coreSet("x"), letter('x')
	return []match{
		m,
		{coreConcat(m.c, x), m.choices, m.s + "x", concat(m.v, y)},
		{coreConcat(x, m.c), m.choices, "x" + m.s, concat(y, m.v)},
		{coreConcat(coreStar(x), coreConcat(m.c, coreStar(x))), "001" + m.choices + "01", "xx" + m.s + "x", concat(star(y, y), concat(m.v, star(y)))},
		{coreAlternative(m.c, x), "0" + m.choices, m.s, left(m.v)},
		{coreAlternative(x, m.c), "1" + m.choices, m.s, right(m.v)},
		{coreAlternative(m.c, m.c), "1" + m.choices, m.s, right(m.v)},
		{coreGroup(32, m.c), m.choices, m.s, group(m.v)},
		{coreRenewal(m.c), m.choices, m.s, m.v},
		{coreStar(coreConcat(x, m.c)), "0" + m.choices + "0" + m.choices + "1", "x" + m.s + "x" + m.s, star(concat(y, m.v), concat(y, m.v))},
		{coreStar(coreRenewal(coreGroup(1, coreAlternative(coreConcat(m.c, x), x)))), "01" + "00" + m.choices + "1", "x" + m.s + "x", star(group(right(y)), group(left(concat(m.v, y))))},
	}
}

// wantMatch asks Put and Get of m.
func wantMatch(t *testing.T, m match) {
	t.Helper()
	wantPut(t, m.v, m.choices)
	wantGet(t, m.c, m.choices, m.s, m.v)
}

func TestGet(t *testing.T) {
	for _, inner := range matches() {
		for _, m := range around(inner) {
			wantMatch(t, m)
		}
	}
}

// TestGetOfAllBytes asks of a set with all bytes, and of sets without one.
func TestGetOfAllBytes(t *testing.T) {
	all := core.Core{Kind: 2, Set: byteset.All()}
	var s []byte
	v := star()
	for b := range 256 {
		wantGet(t, all, "", string([]byte{byte(b)}), letter(byte(b)))
		one := core.Core{Kind: 2, Set: byteset.Of(byte(b))}
		others := core.Core{Kind: 2, Set: one.Set.Not()}
		wantGet(t, one, "", string([]byte{byte(b)}), letter(byte(b)))
		wantError(t, others, "", string([]byte{byte(b)}), api.EBITS)
		wantError(t, one, "", string([]byte{byte(b + 1)}), api.EBITS)
		wantGet(t, others, "", string([]byte{byte(b + 1)}), letter(byte(b+1)))
		s, v = append(s, byte(b)), star(append(v.L, letter(byte(b)))...)
	}
	wantMatch(t, match{coreStar(all), strings.Repeat("0", 256) + "1", string(s), v})
}

// TestCountOfChoices asks for too few choices and for too many.
func TestCountOfChoices(t *testing.T) {
	for _, inner := range matches() {
		for _, m := range around(inner) {
			for count := range m.choices {
				wantError(t, m.c, m.choices[:count], m.s, api.EBITS)
			}
			for _, more := range []string{"0", "1", "00", "01", "10", "11", "2", "x", " ", "\x00", "\xff", "é"} {
				wantError(t, m.c, m.choices+more, m.s, api.EBITS)
			}
			if m.choices != "" {
				wantError(t, m.c, m.choices+m.choices, m.s, api.EBITS)
			}
		}
	}
}

// TestCountOfBytes asks for too few bytes and for too many. The letters of the
// cores are a, b and x.
func TestCountOfBytes(t *testing.T) {
	for _, inner := range matches() {
		for _, m := range around(inner) {
			for count := range m.s {
				wantError(t, m.c, m.choices, m.s[:count], api.EBITS)
				wantError(t, m.c, m.choices, m.s[count+1:], api.EBITS)
			}
			for _, more := range []string{"a", "b", "x", "\x00", "0", "1", "aa"} {
				wantError(t, m.c, m.choices, m.s+more, api.EBITS)
			}
			if m.s != "" {
				wantError(t, m.c, m.choices, m.s+m.s, api.EBITS)
			}
		}
	}
}

// TestOtherCharacters asks of characters that are no choices, each at the place
// of one.
func TestOtherCharacters(t *testing.T) {
	for _, inner := range matches() {
		for _, m := range around(inner) {
			for i := range m.choices {
				for _, other := range []string{"2", "/", "a", "L", " ", "-", "\x00", "\x01", "\xb0", "\xb1", "\xff", "０"} {
					wantError(t, m.c, m.choices[:i]+other+m.choices[i+1:], m.s, api.EBITS)
				}
				wantError(t, m.c, m.choices[:i]+" "+m.choices[i:], m.s, api.EBITS)
			}
		}
	}
	either, many := coreAlternative(coreEmpty(), coreEmpty()), coreStar(coreSet("a"))
	for b := range 256 {
		text := string([]byte{byte(b)})
		if text == "0" || text == "1" {
			continue
		}
		wantError(t, either, text, "", api.EBITS)
		wantError(t, many, text, "", api.EBITS)
		wantError(t, many, text, "a", api.EBITS)
		wantError(t, many, "0"+text, "a", api.EBITS)
		wantError(t, coreEmpty(), text, "", api.EBITS)
		wantError(t, either, "0"+text, "", api.EBITS)
		wantError(t, many, "01"+text, "a", api.EBITS)
	}
}

// TestOtherBytes asks of bytes that are not in their sets, each at the place of
// one that is.
func TestOtherBytes(t *testing.T) {
	for _, inner := range matches() {
		for _, m := range around(inner) {
			for i := range m.s {
				for _, other := range []string{"z", "\x00", "\xff", "0", "1", "A", "\xe1"} {
					wantError(t, m.c, m.choices, m.s[:i]+other+m.s[i+1:], api.EBITS)
				}
			}
		}
	}
	for _, s := range []string{"", "a", "\x00", "\xff"} {
		wantError(t, coreSet(""), "", s, api.EBITS)
	}
}

// TestNothing asks of parts of kind 0, which have no values, and of choices that
// do not go there.
func TestNothing(t *testing.T) {
	a, e, none, coreA := letter('a'), empty(), coreNothing(), coreSet("a")
	for _, within := range []core.Core{none, coreRenewal(none), coreGroup(1, none), coreConcat(none, coreA), coreConcat(coreA, none), coreAlternative(none, none)} {
		for _, choices := range []string{"", "0", "1", "00", "01", "10", "11", "001", "0001"} {
			for _, s := range []string{"", "a", "aa"} {
				wantError(t, within, choices, s, api.EBITS)
				wantError(t, coreRenewal(within), choices, s, api.EBITS)
				wantError(t, coreGroup(1, within), choices, s, api.EBITS)
				wantError(t, coreConcat(within, coreEmpty()), choices, s, api.EBITS)
				wantError(t, coreConcat(coreEmpty(), within), choices, s, api.EBITS)
				wantError(t, coreConcat(coreA, within), choices, s, api.EBITS)
				wantError(t, coreAlternative(within, coreA), "0"+choices, s, api.EBITS)
				wantError(t, coreAlternative(coreA, within), "1"+choices, s, api.EBITS)
				wantError(t, coreStar(within), "0"+choices, s, api.EBITS)
				wantError(t, coreStar(within), "0"+choices+"1", s, api.EBITS)
				wantError(t, coreStar(coreGroup(1, coreRenewal(coreAlternative(coreA, within)))), "00"+"01"+choices+"1", "a"+s, api.EBITS)
			}
		}
		wantGet(t, coreAlternative(within, coreA), "1", "a", right(a))
		wantGet(t, coreAlternative(coreA, within), "0", "a", left(a))
		wantGet(t, coreStar(within), "1", "", star())
		wantGet(t, coreConcat(coreStar(within), coreA), "1", "a", concat(star(), a))
		wantGet(t, coreGroup(2, coreRenewal(coreAlternative(coreEmpty(), within))), "0", "", group(left(e)))
		wantGet(t, coreStar(coreGroup(1, coreRenewal(coreAlternative(coreA, within)))), "00"+"00"+"1", "aa", star(group(left(a)), group(left(a))))
	}
}

// TestEmptyIterations asks of values that are good, but not full, as an
// iteration in them matches the empty string.
func TestEmptyIterations(t *testing.T) {
	a, e, coreA := letter('a'), empty(), coreSet("a")
	option := coreAlternative(coreA, coreEmpty())
	for _, x := range []struct {
		c core.Core
		v value.Value
	}{
		{coreStar(coreEmpty()), star(e)},
		{coreStar(coreEmpty()), star(e, e)},
		{coreStar(coreGroup(1, coreEmpty())), star(group(e))},
		{coreStar(coreConcat(coreEmpty(), coreEmpty())), star(concat(e, e))},
		{coreStar(option), star(right(e))},
		{coreStar(option), star(left(a), right(e))},
		{coreStar(option), star(right(e), left(a))},
		{coreStar(option), star(left(a), right(e), left(a))},
		{coreStar(coreConcat(option, option)), star(concat(right(e), right(e)))},
		{coreStar(coreConcat(option, option)), star(concat(left(a), right(e)), concat(right(e), right(e)))},
		{coreStar(coreGroup(1, option)), star(group(right(e)))},
		{coreStar(coreRenewal(option)), star(right(e))},
		{coreStar(coreRenewal(coreGroup(1, option))), star(group(left(a)), group(right(e)))},
		{coreStar(coreStar(coreA)), star(star())},
		{coreStar(coreStar(coreA)), star(star(a), star())},
		{coreStar(coreStar(coreA)), star(star(), star(a))},
		{coreStar(coreStar(option)), star(star(right(e)))},
		{coreStar(coreStar(option)), star(star(left(a), right(e)))},
		{coreStar(coreStar(option)), star(star(left(a)), star(right(e)))},
		{coreStar(coreStar(coreStar(coreA))), star(star(star(a), star()))},
		{coreStar(coreConcat(coreA, coreStar(coreEmpty()))), star(concat(a, star(e)))},
		{coreStar(coreConcat(coreStar(coreEmpty()), coreA)), star(concat(star(e), a))},
		{coreStar(coreAlternative(coreStar(coreEmpty()), coreA)), star(right(a), left(star()))},
		{coreConcat(coreStar(coreEmpty()), coreA), concat(star(e), a)},
		{coreConcat(coreA, coreStar(coreEmpty())), concat(a, star(e))},
		{coreAlternative(coreStar(coreEmpty()), coreA), left(star(e))},
		{coreAlternative(coreA, coreStar(option)), right(star(right(e)))},
		{coreGroup(1, coreStar(coreEmpty())), group(star(e))},
		{coreRenewal(coreStar(coreEmpty())), star(e)},
		{coreStar(coreRenewal(coreStar(coreEmpty()))), star(star(e))},
	} {
		m := match{x.c, modelPut(x.v), string(value.Flat(x.v)), x.v}
		for _, m := range around(m) {
			if !value.Good(m.c, m.v) || value.Full(m.c, m.v) {
				t.Errorf("%s of %s: not good, or full", value.Text(m.v), show(m.c))
			}
			wantPut(t, m.v, m.choices)
			wantError(t, m.c, m.choices, m.s, api.EBITS)
		}
	}
}

// TestMaxInput asks for strings of MaxInput bytes and of one more, whether there
// is a value or not.
func TestMaxInput(t *testing.T) {
	a, chain, chained := coreSet("a"), coreSet("a"), letter('a')
	for length := 1; length <= api.MaxInput+3; length++ {
		s := strings.Repeat("a", length)
		want := match{coreStar(a), strings.Repeat("0", length) + "1", s, letters(s)}
		wantPut(t, want.v, want.choices)
		if length <= api.MaxInput {
			wantGet(t, want.c, want.choices, s, want.v)
			wantGet(t, chain, "", s, chained)
			wantError(t, a, "", s+"b", []api.Errno{api.EBITS, api.EARG}[length/api.MaxInput])
			wantError(t, want.c, "1", s, api.EBITS)
		} else {
			for _, choices := range []string{want.choices, "", "1", "x", want.choices + "0"} {
				for _, c := range []core.Core{want.c, chain, a, coreEmpty(), coreNothing(), coreRenewal(want.c), {Kind: -1}} {
					wantError(t, c, choices, s, api.EARG)
				}
			}
		}
		chain, chained = coreConcat(a, chain), concat(letter('a'), chained)
	}
	for _, length := range []int{1000, 1 << 20} {
		wantError(t, coreStar(a), strings.Repeat("0", length)+"1", strings.Repeat("a", length), api.EARG)
	}
}

// wrongCores are cores that are not valid.
func wrongCores() []core.Core {
	a := coreSet("a")
	large := a
	for range api.MaxCore {
		large = coreStar(large)
	}
	shared := a
	for range 200 {
		shared = coreConcat(shared, shared)
	}
	all := []core.Core{
		{Kind: -1}, {Kind: 8}, {Kind: 9, L: []core.Core{a}}, {Kind: 256 + 1}, {Kind: 1<<32 + 2, Set: a.Set},
		{N: 1}, {Set: a.Set}, {L: []core.Core{a}},
		{Kind: 1, N: 1}, {Kind: 1, Set: a.Set}, {Kind: 1, L: []core.Core{a}},
		{Kind: 2, Set: a.Set, N: 1}, {Kind: 2, Set: a.Set, L: []core.Core{a}},
		coreConcat(), coreConcat(a), coreConcat(a, a, a),
		coreAlternative(), coreAlternative(a), coreAlternative(a, a, a),
		coreStar(), coreStar(a, a),
		coreGroup(1), coreGroup(1, a, a), coreGroup(0, a), coreGroup(-1, a), coreGroup(api.MaxGroups+1, a),
		coreRenewal(), coreRenewal(a, a),
		large, shared,
	}
	for _, c := range []core.Core{coreConcat(a, a), coreAlternative(a, a), coreStar(a), coreRenewal(a)} {
		numbered, withSet := c, c
		numbered.N, withSet.Set = 1, a.Set
		all = append(all, numbered, withSet)
	}
	return append(all, core.Core{Kind: 6, N: 1, Set: a.Set, L: []core.Core{a}})
}

// TestWrongCores asks of cores that are not valid, also at places where the
// choices do not go, and with choices and bytes that no value has.
func TestWrongCores(t *testing.T) {
	coreA := coreSet("a")
	for _, wrong := range wrongCores() {
		for _, c := range []core.Core{
			wrong,
			coreConcat(coreA, wrong),
			coreConcat(wrong, coreA),
			coreConcat(coreNothing(), wrong),
			coreAlternative(coreA, wrong),
			coreAlternative(wrong, coreA),
			coreStar(wrong),
			coreGroup(1, wrong),
			coreRenewal(wrong),
			coreStar(coreAlternative(coreA, coreRenewal(coreGroup(1, wrong)))),
		} {
			for _, choices := range []string{"", "0", "1", "00", "01", "001", "011", "x", "0x", "1x"} {
				for _, s := range []string{"", "a", "b", "aa", strings.Repeat("a", api.MaxInput), strings.Repeat("a", api.MaxInput+1)} {
					wantError(t, c, choices, s, api.EARG)
				}
			}
		}
	}
}
