package bits_test

import (
	"fmt"
	"testing"

	"catchpole/api"
	"catchpole/bits"
	"catchpole/byteset"
	"catchpole/core"
	"catchpole/value"
)

// The functions with the signatures that the chapter lists: others would not
// build.
var (
	_ func(value.Value) string                                 = bits.Put
	_ func(core.Core, string, []byte) (value.Value, api.Errno) = bits.Get
)

// The cores begin with core, and the values do not.

func coreNothing() core.Core { return core.Core{} }

func coreEmpty() core.Core { return core.Core{Kind: 1} }

func coreSet(text string) core.Core {
	return core.Core{Kind: 2, Set: byteset.Of([]byte(text)...)}
}

func coreConcat(l ...core.Core) core.Core { return core.Core{Kind: 3, L: l} }

func coreAlternative(l ...core.Core) core.Core { return core.Core{Kind: 4, L: l} }

func coreStar(l ...core.Core) core.Core { return core.Core{Kind: 5, L: l} }

func coreGroup(number int, l ...core.Core) core.Core { return core.Core{Kind: 6, N: number, L: l} }

func coreRenewal(l ...core.Core) core.Core { return core.Core{Kind: 7, L: l} }

func empty() value.Value { return value.Value{Kind: 1} }

func letter(b byte) value.Value { return value.Value{Kind: 2, B: b} }

func concat(l ...value.Value) value.Value { return value.Value{Kind: 3, L: l} }

func left(l ...value.Value) value.Value { return value.Value{Kind: 4, L: l} }

func right(l ...value.Value) value.Value { return value.Value{Kind: 5, L: l} }

func star(l ...value.Value) value.Value { return value.Value{Kind: 6, L: l} }

func group(l ...value.Value) value.Value { return value.Value{Kind: 7, L: l} }

// letters is the star of the letters of text.
func letters(text string) value.Value {
	v := star()
	for _, b := range []byte(text) {
		v.L = append(v.L, letter(b))
	}
	return v
}

// cut is the beginning of a long text.
func cut(text string) string { return text[:min(len(text), 200)] }

// show is a text of a core, which need not be valid.
func show(c core.Core) string {
	if core.Good(c) {
		return cut(core.Text(c))
	}
	return fmt.Sprintf("a wrong core of kind %d, of the number %d and with %d elements", c.Kind, c.N, len(c.L))
}

// wantPut asks for the choices of a value.
func wantPut(t *testing.T, v value.Value, want string) {
	t.Helper()
	if got := bits.Put(v); got != want {
		t.Errorf("Put of %s: %q, want %q", cut(value.Text(v)), cut(got), cut(want))
	}
}

// wantGet asks that c has that value with the choices and the bytes of s.
func wantGet(t *testing.T, c core.Core, choices, s string, want value.Value) {
	t.Helper()
	if got, err := bits.Get(c, choices, []byte(s)); err != api.OK || !value.Same(got, want) {
		t.Errorf("Get of %s, %q and %q: %s, %v, want %s", show(c), cut(choices), cut(s), cut(value.Text(got)), err, cut(value.Text(want)))
	}
}

// wantError asks that Get returns that error, and no value.
func wantError(t *testing.T, c core.Core, choices, s string, want api.Errno) {
	t.Helper()
	if got, err := bits.Get(c, choices, []byte(s)); err != want || !value.Same(got, value.Value{}) {
		t.Errorf("Get of %s, %q and %q: %s, %v, want %v", show(c), cut(choices), cut(s), cut(value.Text(got)), err, want)
	}
}

// TestExample asks what the chapter and DOC.md have as an example.
func TestExample(t *testing.T) {
	wantPut(t, left(letter('a')), "0")
	wantGet(t, coreAlternative(coreSet("a"), coreSet("b")), "0", "a", left(letter('a')))
}

func TestPut(t *testing.T) {
	a, b, e := letter('a'), letter('b'), empty()
	yes, no := left(a), right(b)
	for _, x := range []struct {
		v    value.Value
		want string
	}{
		{e, ""},
		{a, ""},
		{letter(0), ""},
		{letter('0'), ""},
		{letter('1'), ""},
		{concat(a, e), ""},
		{concat(yes, no), "01"},
		{concat(no, yes), "10"},
		{concat(concat(yes, no), concat(no, no)), "0111"},
		{concat(star(a), a), "01"},
		{concat(a, star()), "1"},
		{yes, "0"},
		{no, "1"},
		{left(e), "0"},
		{left(no), "01"},
		{left(left(no)), "001"},
		{left(star(a)), "001"},
		{left(concat(no, yes)), "010"},
		{right(e), "1"},
		{right(yes), "10"},
		{right(right(yes)), "110"},
		{right(star()), "11"},
		{right(concat(no, yes)), "110"},
		{star(), "1"},
		{star(a), "01"},
		{star(a, a), "001"},
		{star(a, a, a), "0001"},
		{star(e), "01"},
		{star(e, e), "001"},
		{star(yes), "001"},
		{star(no), "011"},
		{star(yes, no), "00011"},
		{star(no, yes), "01001"},
		{star(no, yes, no), "0100011"},
		{star(concat(no, yes), a), "01001"},
		{star(group(no)), "011"},
		{star(star()), "011"},
		{star(star(), star()), "01011"},
		{star(star(a)), "0011"},
		{star(star(a), star()), "001011"},
		{star(star(), star(a)), "010011"},
		{star(star(a, a), star(a)), "000100" + "11"},
		{star(star(star())), "00111"},
		{star(star(star(a), star()), star()), "0001011" + "01" + "1"},
		{group(a), ""},
		{group(yes), "0"},
		{group(no), "1"},
		{group(group(concat(no, star(a)))), "101"},
		{group(star()), "1"},
	} {
		wantPut(t, x.v, x.want)
	}
}

// unknown are the kinds that no value has, or some of them.
func unknown() []int {
	return []int{0, -1, -2, -4, -6, 8, 9, 10, 52, 255, 256 + 4, 256 + 6, 1<<32 + 3, 1<<32 + 6, 1<<63 - 1, -1 << 63}
}

// TestPutOfUnknownKinds asks that values of unknown kinds have no choices,
// whatever is in them, and that those beside them keep theirs.
func TestPutOfUnknownKinds(t *testing.T) {
	choosy := star(left(letter('a')), right(letter('b')))
	for _, kind := range unknown() {
		for _, l := range [][]value.Value{nil, {{}}, {choosy}, {choosy, choosy}, {choosy, choosy, choosy}} {
			v := value.Value{Kind: kind, B: 'a', L: l}
			wantPut(t, v, "")
			wantPut(t, left(v), "0")
			wantPut(t, right(v), "1")
			wantPut(t, group(v), "")
			wantPut(t, star(v, v), "001")
			wantPut(t, concat(v, right(v)), "1")
			wantPut(t, concat(right(v), v), "1")
			wantPut(t, star(left(v), v, right(v)), "0000"+"1"+"1")
		}
	}
}

// TestPutOfOtherElements asks of values with fewer elements than their kind has,
// and with more, which do not count.
func TestPutOfOtherElements(t *testing.T) {
	a, yes, no := letter('a'), left(letter('a')), right(letter('b'))
	for _, x := range []struct {
		v    value.Value
		want string
	}{
		{value.Value{Kind: 1, L: []value.Value{no}}, ""},
		{value.Value{Kind: 1, L: []value.Value{no, star()}}, ""},
		{value.Value{Kind: 2, B: 'a', L: []value.Value{no}}, ""},
		{value.Value{Kind: 2, B: 'a', L: []value.Value{star(), no}}, ""},
		{concat(), ""},
		{concat(a), ""},
		{concat(no), "1"},
		{concat(star(a)), "01"},
		{concat(no, yes, no), "10"},
		{concat(yes, no, star(), star()), "01"},
		{concat(a, a, no), ""},
		{left(), "0"},
		{left(no, yes), "01"},
		{left(a, no), "0"},
		{left(a, star(), star()), "0"},
		{right(), "1"},
		{right(yes, no), "10"},
		{right(a, no), "1"},
		{right(a, star(), star()), "1"},
		{star(a, a, a, a, a, a, a), "00000001"},
		{star(no, no, no, no), "010101011"},
		{group(), ""},
		{group(no, yes), "1"},
		{group(a, no), ""},
		{group(a, star(), star()), ""},
		{star(left(), right(), concat(), group()), "00" + "01" + "0" + "0" + "1"},
		{concat(left(), left(), left()), "00"},
		{concat(concat(no, yes, no), concat(yes)), "100"},
		{concat(left(no, no), right(yes, yes)), "0110"},
		{value.Value{Kind: 6, B: 'a'}, "1"},
		{value.Value{Kind: 4, B: 'a', L: []value.Value{no}}, "01"},
	} {
		wantPut(t, x.v, x.want)
	}
}
