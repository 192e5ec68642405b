package deriv_test

import (
	"strings"
	"testing"

	"catchpole/api"
	"catchpole/core"
	"catchpole/deriv"
)

// wantError asks that a derivative is refused, with nothing beside the error.
func wantError(t *testing.T, c core.Core, b byte, want api.Errno) {
	t.Helper()
	if got, err := deriv.By(c, b); err != want || !isZero(got) {
		t.Errorf("By of %s and %q: %s, %v, want %v", show(c), b, show(got), err, want)
	}
	wantWordError(t, c, string([]byte{b}), want)
}

// wantWordError asks the same of the derivative by several bytes.
func wantWordError(t *testing.T, c core.Core, s string, want api.Errno) {
	t.Helper()
	if got, err := deriv.Word(c, []byte(s)); err != want || !isZero(got) {
		t.Errorf("Word of %s and %q: %s, %v, want %v", show(c), cut(s), show(got), err, want)
	}
}

// wantUnchanged asks that Tidy returns a core that is not valid as it is. It does
// not look into its elements, which may be more than anybody can go through.
func wantUnchanged(t *testing.T, c core.Core) {
	t.Helper()
	got := deriv.Tidy(c)
	if got.Kind != c.Kind || got.Set != c.Set || got.N != c.N || len(got.L) != len(c.L) {
		t.Errorf("Tidy of %s: %s", show(c), show(got))
		return
	}
	for i := range c.L {
		if core.Size(c) < 2*api.MaxCore && !core.Same(got.L[i], c.L[i]) {
			t.Errorf("Tidy of %s: element %d is %s, want %s", show(c), i, show(got.L[i]), show(c.L[i]))
		}
	}
}

// wrongCores are cores that are not valid.
func wrongCores() []core.Core {
	a := set("a")
	large := a
	for range api.MaxCore {
		large = star(large)
	}
	shared := a
	for range 200 {
		shared = concat(shared, shared)
	}
	all := []core.Core{
		{Kind: -1}, {Kind: 8}, {Kind: 9, L: []core.Core{a}}, {Kind: 256 + 1}, {Kind: 1<<32 + 2, Set: a.Set},
		{N: 1}, {Set: a.Set}, {L: []core.Core{a}},
		{Kind: 1, N: 1}, {Kind: 1, Set: a.Set}, {Kind: 1, L: []core.Core{a}},
		{Kind: 2, Set: a.Set, N: 1}, {Kind: 2, Set: a.Set, L: []core.Core{a}},
		concat(), concat(a), concat(a, a, a),
		alternative(), alternative(a), alternative(a, a, a),
		star(), star(a, a),
		group(1), group(1, a, a), group(0, a), group(-1, a), group(api.MaxGroups+1, a),
		renewal(), renewal(a, a),
		large, shared,
	}
	for _, c := range []core.Core{concat(a, a), alternative(a, a), star(a), renewal(a)} {
		numbered, withSet := c, c
		numbered.N, withSet.Set = 1, a.Set
		all = append(all, numbered, withSet)
	}
	return append(all, core.Core{Kind: 6, N: 1, Set: a.Set, L: []core.Core{a}})
}

// TestWrongCores asks of cores that are not valid, also at places where no byte
// leads, and within what Tidy would change.
func TestWrongCores(t *testing.T) {
	a := set("a")
	for _, wrong := range wrongCores() {
		for _, c := range []core.Core{
			wrong,
			concat(a, wrong),
			concat(wrong, a),
			concat(nothing(), wrong),
			concat(wrong, nothing()),
			concat(empty(), wrong),
			alternative(a, wrong),
			alternative(wrong, nothing()),
			star(wrong),
			star(star(wrong)),
			group(1, wrong),
			renewal(wrong),
			star(alternative(concat(a, empty()), renewal(group(1, wrong)))),
		} {
			for _, b := range []byte("ab\x00") {
				wantError(t, c, b, api.EARG)
			}
			wantWordError(t, c, "", api.EARG)
			wantWordError(t, c, "ba", api.EARG)
			wantWordError(t, c, strings.Repeat("b", 1000), api.EARG)
			wantUnchanged(t, c)
		}
	}
}

// TestOfNoBytes asks of a word without bytes, nil or not, of a wrong core.
func TestOfNoBytes(t *testing.T) {
	for _, s := range [][]byte{nil, {}} {
		if got, err := deriv.Word(core.Core{Kind: 3}, s); err != api.EARG || !isZero(got) {
			t.Errorf("Word of a wrong core: %s, %v", show(got), err)
		}
	}
}

// TestOrderOfErrors asks of a core that is too large and whose derivative would be
// larger still, and of one whose derivative alone is.
func TestOrderOfErrors(t *testing.T) {
	for _, x := range []struct {
		size int
		want api.Errno
	}{{901, api.OK}, {1301, api.ELARGE}, {api.MaxCore - 3, api.ELARGE}, {api.MaxCore - 1, api.EARG}, {2*api.MaxCore + 1, api.EARG}} {
		c := star(concat(set("a"), chain(x.size)))
		if x.want != api.OK {
			wantError(t, c, 'a', x.want)
		} else if got, err := deriv.By(c, 'a'); err != api.OK || core.Size(got) != 4+2*x.size {
			t.Errorf("By of %s: size %d, %v", show(c), core.Size(got), err)
		}
	}
}

// TestFirstErrorOfWord asks that the first derivative that is too large is told,
// whatever would be left of it, and that one behind which nothing is left is not.
func TestFirstErrorOfWord(t *testing.T) {
	c := concat(set("x"), star(concat(set("a"), chain(1501))))
	for _, s := range []string{"", "x", "xb", "xba", "a", "ax", "b", "aaaa"} {
		if got, err := deriv.Word(c, []byte(s)); err != api.OK {
			t.Errorf("Word of %q: %s, %v", s, show(got), err)
		}
	}
	for _, s := range []string{"xa", "xab", "xabb", "xaaaaa", "xa\x00", "xa" + strings.Repeat("b", 1000)} {
		wantWordError(t, c, s, api.ELARGE)
	}
}
